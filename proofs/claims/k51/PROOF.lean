import PyProof.Rows.All
import Wide.All
import OpenK.AllK
import Wide.FinOn
import Lean
import PyProof.EqAt
import PyProof.EqKinds
import PyProof.TupleCall
import PyProof.CompFree
import PyProof.CollectWalk
import PyProof.Rows.SetFrom
import PyProof.Rows.SortShell
import PySem.Challenge.RW_allhits_k51_a_full_desk
set_option Elab.async false
set_option linter.all false
set_option maxRecDepth 100000
def yaa := @Nat.testBit_and
def yab := @Bool.and_eq_true
def yac := @Nat.eq_of_testBit_eq
def yad := @Nat.testBit_lt_two_pow
def yae := @Nat.lt_of_lt_of_le
def yaf := @Nat.pow_le_pow_right
def yag := @Nat.lt_or_ge
def yah := @Nat.two_pow_pos
def yai := @Nat.testBit_xor
def yaj := @Nat.testBit_two_pow
def yak := @Nat.testBit_zero
def yal := @Nat.mod_two_eq_zero_or_one
def yam := @Nat.testBit_or
def yan := @Nat.lt_two_pow_self
def yao := @Nat.lt_of_le_of_ne
def yap := @List.reverse_reverse
def yaq := @List.foldl_append
def yar := @List.pairwise_append
def yas := @List.mem_append_left
def yat := @List.mem_append
def yau := @List.filter_append
def yav := @Bool.eq_iff_iff
def yaw := @Bool.not_eq_true'
def yax := @Nat.le_refl
def yay := @List.mem_filter
def yaz := @List.any_eq_false
def yba := @List.filter_sublist
def ybb := @List.mem_cons_self
def ybc := @List.pairwise_cons
def ybd := @List.mem_cons
def ybe := @List.mem_cons_of_mem
def ybf := @List.all_eq_true
def ybg := @List.pairwise_lt_range
def ybh := @List.mem_range
def ybi := @Nat.lt_of_le_of_lt
def ybj := @List.any_eq_true
def ybk := @List.foldl_cons
def ybl := @Nat.lt_trans
def ybm := @Nat.testBit_two_pow_self
def ybn := @Nat.or_lt_two_pow
def ybo := @Nat.pow_lt_pow_right
def ybp := @List.mem_reverse
def ybq := @List.mem_map
def ybr := @List.pairwise_reverse
def ybs := @List.pairwise_map
def ybt := @List.length_erase_of_mem
def ybu := @List.getElem?_eq_getElem
def ybv := @List.mem_of_getElem?
def ybw := @List.any_append
def ybx := @List.mem_flatMap
def yby := @List.length_append
def ybz := @List.length_map
def yca := @List.length_cons
def ycb := @List.pairwise_iff_getElem
def ycc := @Array.getElem?_toList
def ycd := @List.getElem?_eq_some_iff
def yce := @Nat.le_of_lt
def ycf := @Nat.le_trans
def ycg := @Nat.not_lt
def ych := @Nat.zero_le
def yci := @Array.getElem?_eq_none
def ycj := @Nat.eq_zero_or_pos
def yck := @Nat.lt_succ_self
def ycl := @Array.toList_extract
def ycm := @List.length_drop
def ycn := @Array.length_toList
def yco := @List.take_length
def ycp := @Array.toList_push
def ycq := @List.append_assoc
def ycr := @List.take_append_drop
def ycs := @List.getElem?_of_mem
def yct := @List.getElem?_drop
def ycu := @List.getElem?_take
def ycv := @List.filterMap_cons
def ycw := @List.map_cons
def ycx := @List.mem_filterMap
def ycy := @List.getElem_mem
def ycz := @List.map_append
def yda := @PySem.Heap.get?_update_self
def ydb := @List.range_succ
def ydc := @Nat.le_succ
def ydd := @PySem.Heap.get?_push_size
def yde := @PySem.Heap.get?_push_of_some
def ydf := @PySem.Heap.lt_size
def ydg := @PySem.Heap.size_push
def ydh := @Nat.ne_of_lt
def ydi := @Nat.lt_succ_of_lt
def ydj := @List.not_mem_nil
def ydk := @Nat.ne_of_gt
def ydl := @Nat.lt_of_succ_lt_succ
def ydm := @List.length_eq_zero_iff
def ydn := @List.append_nil
def ydo := @Nat.mod_lt
def ydp := @List.length_eraseIdx_of_lt
def ydq := @PySem.Heap.get?_update_other
def ydr := @List.getElem?_map
def yds := @List.map_map
def ydt := @Nat.le_of_eq
def ydu := @List.mem_singleton
def ydv := @List.ext_getElem
def ydw := @List.getElem?_eq_none
def ydx := @Bool.or_false
def ydy := @Bool.false_eq_true
def ydz := @Nat.lt_irrefl
def yea := @Array.append_assoc
def yeb := @List.getElem_inj
def yec := @List.getElem?_set_self
def yed := @List.getElem?_set_ne
def yee := @Bool.false_and
def yef := @List.mem_append_right
def yeg := @Int.fdiv_eq_ediv_of_nonneg
def yeh := @Bool.false_ne_true
def yei := @Array.mem_toList_iff
def yej := @List.nodup_cons
def yek := @List.of_mem_zip
def yel := @Option.isSome_iff_exists
def yem := @List.length_take
def yen := @List.getElem?_append_right
def yeo := @List.getElem?_replicate
def yep := @List.getElem?_append_left
def yeq := @List.length_replicate
def yer := @Int.toNat_natCast
def yet := @List.map_nil
def yeu := @List.size_toArray
def yev := @List.length_set
def yew := @List.any_cons
def yex := @List.length_singleton
def yey := @List.find?_cons
def yez := @Option.map_some
def yfa := @List.cons_append
def yfb := @List.length_nil
def yfc := @PySem.F.slot_dict_getitem
def yfd := @List.lookup_cons
def yfe := @List.forIn_cons
def yff := @Bool.or_eq_true
def yfg := @List.getD_eq_getElem?_getD
def yfh := @Bool.true_and
def yfi := @List.getElem_toArray
def yfj := @Array.toArray_toList
def yfk := @List.map_id
def yfl := @List.map_congr_left
def yfm := @List.perm_ext_iff_of_nodup
def yfn := @List.length_filter_le
def yfo := @List.drop_eq_nil_of_le
def yfp := @List.filter_eq_self
def yfq := @Nat.not_lt_zero
def yfr := @List.idxOf_lt_length_iff
def yfs := @PySem.F.slot_list_index
def yft := @PySem.F.entry_list_index
def yfu := @PySem.F.args_list_index_2
def yfv := @List.take_add_one
def yfw := @List.map_eq_nil_iff
def yfx := @Nat.one_mul
def yfy := @Nat.mul_le_mul_right
def yfz := @List.flatten_cons
def yga := @List.mem_flatten
def ygb := @Array.getElem?_eq_some_iff
def ygc := @Bool.eq_false_iff
def ygd := @List.idxOf_lt_length_of_mem
def yge := @Nat.le_add_left
def ygf := @Nat.mul_le_mul
def ygg := @List.map_replicate
def ygh := @List.map_reverse
def ygi := @List.getElem_idxOf
def ygj := @List.range'_succ
def ygk := @List.getElem?_cons_succ
def ygl := @Nat.sub_self
def ygm := @List.getElem?_cons_zero
def ygn := @Nat.add_sub_cancel_left
def ygo := @Nat.zero_add
def ygp := @PySem.F.plainAttrs_str
def ygq := @Int.emod_nonneg
def ygr := @Int.emod_lt_of_pos
def ygs := @PySem.F.slot_str_join
def ygt := @PySem.F.type_str_join
def ygu := @PySem.F.plainAttrs_list
def ygv := @PySem.F.slot_list_append
def ygw := @PySem.F.type_list_append
def ygx := @List.length_range
def ygy := @List.drop_eq_getElem_cons
def ygz := @PySem.F.slot_str_split
def yha := @PySem.F.type_str_split
def yhb := @PySem.F.excBase_ValueError
def yhc := @PySem.F.type_list_index
def yhd := @List.pairwise_singleton
def yhe := @List.mem_of_mem_take
namespace Fam
def sub (b a:Nat):Prop:=a&&&b=b
instance (b a:Nat):Decidable (sub b a):=inferInstanceAs (Decidable (a&&&b=b))
def qa4 {b a:Nat}:sub b a↔∀k,b.testBit k=true->a.testBit k=true:=by
 unfold sub
 constructor
 . intro h k hk
   rw [<-h,yaa,yab] at hk
   exact hk.1
 . intro h
   refine yac fun k=>?_
   rw [yaa]
   cases hb:b.testBit k
   . simp
   . simp [h k hb]
def qdt (a:Nat):sub a a:=Nat.and_self a
def qci {a b c:Nat} (h1:sub a b) (h2:sub b c):sub a c:=qa4.mpr fun k hk=>qa4.mp h2 k (qa4.mp h1 k hk)
def sub_le {a b:Nat} (h:sub b a):b<=a:=by
 have:a&&&b<=a:=Nat.and_le_left
 rw [h] at this
 exact this
def qiY {a b:Nat} (h1:sub a b) (h2:sub b a):a=b:=Nat.le_antisymm (sub_le h1) (sub_le h2)
def mt (a b:Nat):Prop:=a&&&b≠0
instance (b a:Nat):Decidable (mt b a):=inferInstanceAs (Decidable (b&&&a≠0))
def qkO {a b:Nat}:mt a b↔∃k,a.testBit k=true/\b.testBit k=true:=by
 unfold mt
 constructor
 . intro h
   obtain ⟨k,hk⟩:=Nat.exists_testBit_of_ne_zero h
   rw [yaa,yab] at hk
   exact ⟨k,hk⟩
 . rintro ⟨k,h1,h2⟩ e
   have:=congrArg (fun z=>Nat.testBit z k) e
   simp [yaa,h1,h2] at this
def qib {a b:Nat}:mt a b↔mt b a:=by unfold mt;rw [Nat.and_comm]
def qpD {a a' b:Nat} (h:sub a a') (q:mt a b):mt a' b:=by
 obtain ⟨k,h1,h2⟩:=qkO.mp q
 exact qkO.mpr ⟨k,qa4.mp h k h1,h2⟩
def qm9 {n a k:Nat} (h:a<2^n) (hk:n<=k):a.testBit k=false:=yad (yae h (yaf (by decide) hk))
def qh2 {n a k:Nat} (h:a<2^n) (hk:a.testBit k=true):k<n:=by
 rcases yag k n with z | z
 . exact z
 . rw [qm9 h z] at hk;cases hk
def rst (m a:Nat):Nat:=2^m-(a+1)
def qf9 {m a:Nat} (h:a<2^m) (k:Nat):(rst m a).testBit k=(decide (k<m)&&!a.testBit k):=Nat.testBit_two_pow_sub_succ h k
def rst_lt (m a:Nat):rst m a<2^m:=by
 have:=yah m
 unfold rst
 omega
def rst_rst {m a:Nat} (h:a<2^m):rst m (rst m a)=a:=by unfold rst;omega
def qgd {m a b:Nat} (ha:a<2^m) (hb:b<2^m):sub a (rst m b)↔¬mt a b:=by
 rw [qa4,qkO]
 constructor
 . rintro h ⟨k,h1,h2⟩
   have:=h k h1
   rw [qf9 hb,h2] at this
   simp at this
 . intro h k hk
   rw [qf9 hb]
   have hm:=qh2 ha hk
   cases hb':b.testBit k
   . simp [hm]
   . exact absurd ⟨k,hk,hb'⟩ h
def less (a k:Nat):Nat:=a-2^k
def xor_bit {a k:Nat} (h:a.testBit k=true):a=(a ^^^ 2^k)+2^k:=by
 have e:(a ^^^ 2^k)&&&2^k=0:=by
   refine yac fun j=>?_
   rw [yaa,yai,yaj,Nat.zero_testBit]
   by_cases c:k=j
   . subst c;simp [h]
   . simp [c]
 have key:∀n x y:Nat,x<2^n->x&&&y=0->x+y=x|||y:=by
   intro n
   induction n with
   | zero =>
     intro x y hx _
     have:x=0:=by omega
     subst this
     simp
   | succ n ih =>
     intro x y hx h
     have q:=ih (x/2) (y/2) (by rw [Nat.pow_succ] at hx;omega) (by rw [<-Nat.and_div_two,h])
     have e1:(x|||y)/2=x/2|||y/2:=Nat.or_div_two
     have m2:x%2=0\/y%2=0:=by
       have:=congrArg (fun z=>Nat.testBit z 0) h
       simp only [yaa,yak,Nat.zero_testBit] at this
       rcases yal x with z1 | z1<;>rcases yal y with z2 | z2<;>simp [z1,z2] at this ⊢
     have m1:(x|||y)%2=x%2+y%2:=by
       have:=yam x y 0
       simp only [yak] at this
       rcases yal (x|||y) with z | z<;>rcases yal x with z1 | z1<;>rcases yal y with z2 | z2<;>simp [z,z1,z2] at this m2 ⊢
     rw [<-e1] at q
     omega
 have:=key (a ^^^ 2^k) (a ^^^ 2^k) (2^k) yan e
 rw [this]
 refine yac fun j=>?_
 rw [yam,yai,yaj]
 by_cases c:k=j
 . subst c;simp [h]
 . simp [c]
def qiz {a k:Nat} (h:a.testBit k=true) (j:Nat):(less a k).testBit j=(a.testBit j&&decide (j≠k)):=by
 have e:less a k=a ^^^ 2^k:=by
   have:=xor_bit h
   unfold less
   omega
 rw [e,yai,yaj]
 by_cases c:k=j
 . subst c;simp [h]
 . simp [c,Ne.symm c]
def qoG {a k:Nat} (h:a.testBit k=true):less a k<a:=by
 have:=xor_bit h
 have:=yah k
 unfold less
 omega
def qmb {a k:Nat} (h:a.testBit k=true):sub (less a k) a:=qa4.mpr fun j hj=>by
 rw [qiz h,yab] at hj
 exact hj.1
def pick (P:Nat->Bool) (L:List Nat):List Nat:=L.foldl (fun found a=>if (!(found.any fun b=>decide (sub b a))&&P a)=true then found++[a] else found) []
def qeB (P:Nat->Bool) (L:List Nat) (a:Nat):Prop:=P a=true/\∀b∈L,P b=true->sub b a->b=a
instance (P:Nat->Bool) (L:List Nat) (a:Nat):Decidable (qeB P L a):=inferInstanceAs (Decidable (_/\_))
def qdi (P:Nat->Bool) (L:List Nat):∀(n b:Nat),b<=n->b∈L->P b=true->∃c∈L,qeB P L c/\sub c b
 | n,b,hn,hb,hP=>by
   by_cases c:∃d∈L,P d=true/\sub d b/\d≠b
   . obtain ⟨d,hd,hPd,hs,hne⟩:=c
     have hlt:d<b:=yao (sub_le hs) hne
     match n with
     | 0=>omega
     | n+1 =>
       obtain ⟨e,he,hm,hse⟩:=qdi P L n d (by omega) hd hPd
       exact ⟨e,he,hm,qci hse hs⟩
   . refine ⟨b,hb,⟨hP,fun d hd hPd hs=>?_⟩,qdt b⟩
     by_cases e:d=b
     . exact e
     . exact absurd ⟨d,hd,hPd,hs,e⟩ c
def qi4 {p:List Nat->Prop} (h0:p []) (h1:∀L a,p L->p (L++[a])) (L:List Nat):p L:=by
 have:∀M:List Nat,p M.reverse:=by
   intro M
   induction M with
   | nil=>exact h0
   | cons a M ih=>rw [List.reverse_cons];exact h1 _ _ ih
 have:=this L.reverse
 rwa [yap] at this
def pick_snoc (P:Nat->Bool) (L:List Nat) (a:Nat):pick P (L++[a])=if (!((pick P L).any fun b=>decide (sub b a))&&P a)=true then pick P L++[a] else pick P L:=by
 unfold pick
 rw [yaq]
 rfl
def qjJ (P:Nat->Bool) (L:List Nat) (hL:L.Pairwise (· < ·)):pick P L=L.filter fun a=>decide (qeB P L a):=by
 revert hL
 refine qi4 (p:=fun L=>L.Pairwise (· < ·)->pick P L=L.filter fun a=>decide (qeB P L a)) (fun _=>rfl) (fun L a ih hL=>?_) L
 obtain ⟨hL1,_,hlt⟩:=yar.mp hL
 have hlt:∀x∈L,x<a:=fun x hx=>hlt x hx a (by simp)
 have ih:=ih hL1
 have e1:L.filter (fun x=>decide (qeB P (L++[a]) x))=L.filter fun x=>decide (qeB P L x):=by
   refine List.filter_congr fun x hx=>?_
   rw [decide_eq_decide]
   constructor
   . rintro ⟨h1,h2⟩
     exact ⟨h1,fun b hb=>h2 b (yas _ hb)⟩
   . rintro ⟨h1,h2⟩
     refine ⟨h1,fun b hb hP hs=>?_⟩
     rcases yat.mp hb with z | z
     . exact h2 b z hP hs
     . have:b=a:=by simpa using z
       subst this
       have:=sub_le hs
       have:=hlt x hx
       omega
 rw [pick_snoc,yau,e1,<-ih]
 have key:(!((pick P L).any fun b=>decide (sub b a))&&P a)=decide (qeB P (L++[a]) a):=by
   rw [yav,yab,yaw,decide_eq_true_eq]
   constructor
   . rintro ⟨h1,h2⟩
     refine ⟨h2,fun b hb hP hs=>?_⟩
     rcases yat.mp hb with z | z
     . exfalso
       obtain ⟨c,hc,hm,hsc⟩:=qdi P L b b (yax _) z hP
       have hin:c∈pick P L:=by rw [ih];exact yay.mpr ⟨hc,decide_eq_true hm⟩
       have:=yaz.mp h1 c hin
       exact this (decide_eq_true (qci hsc hs))
     . simpa using z
   . rintro ⟨h1,h2⟩
     refine ⟨?_,h1⟩
     rw [yaz]
     intro c hc hd
     rw [ih] at hc
     obtain ⟨c1,c2⟩:=yay.mp hc
     have:=h2 c (yas _ c1) (of_decide_eq_true c2).1 (of_decide_eq_true hd)
     have:=hlt c c1
     omega
 rw [key]
 by_cases c:qeB P (L++[a]) a
 . rw [if_pos (decide_eq_true c)]
   simp [c]
 . rw [if_neg (by simpa using c)]
   simp [c]
def qew {P:Nat->Bool} {L:List Nat} (hL:L.Pairwise (· < ·)) {a:Nat}:a∈pick P L↔a∈L/\qeB P L a:=by
 rw [qjJ P L hL,yay,decide_eq_true_eq]
def qeQ {P:Nat->Bool} {L:List Nat} (hL:L.Pairwise (· < ·)):(pick P L).Pairwise (· < ·):=by
 rw [qjJ P L hL]
 exact hL.sublist yba
def pick_len (P:Nat->Bool) (L:List Nat):(pick P L).length<=L.length:=by
 refine qi4 (p:=fun L=>(pick P L).length<=L.length) (yax _) (fun L a ih=>?_) L
 rw [pick_snoc]
 split
 . simp;exact ih
 . simp;omega
def rise_ext:∀{a b:List Nat},a.Pairwise (· < ·)->b.Pairwise (· < ·)->(∀x,x∈a↔x∈b)->a=b
 | [],[],_,_,_=>rfl
 | [],y::b,_,_,h=>absurd ((h y).mpr ybb) (by simp)
 | x::a,[],_,_,h=>absurd ((h x).mp ybb) (by simp)
 | x::a,y::b,ha,hb,h=>by
   obtain ⟨a1,a2⟩:=ybc.mp ha
   obtain ⟨b1,b2⟩:=ybc.mp hb
   have e:x=y:=by
     rcases ybd.mp ((h x).mp ybb) with z | z
     . exact z
     . rcases ybd.mp ((h y).mpr ybb) with q | q
       . exact q.symm
       . have:=b1 x z
         have:=a1 y q
         omega
   subst e
   congr 1
   refine rise_ext a2 b2 fun z=>?_
   constructor
   . intro hz
     rcases ybd.mp ((h z).mp (ybe _ hz)) with q | q
     . have:=a1 z hz;omega
     . exact q
   . intro hz
     rcases ybd.mp ((h z).mpr (ybe _ hz)) with q | q
     . have:=b1 z hz;omega
     . exact q
def hitP (fs:List Nat) (a:Nat):Bool:=fs.all fun b=>decide (mt a b)
def hitP_iff {fs:List Nat} {a:Nat}:hitP fs a=true↔∀b∈fs,mt a b:=by
 unfold hitP
 rw [ybf]
 simp only [decide_eq_true_eq]
def qlc {fs:List Nat} {a b:Nat} (h:sub b a) (q:hitP fs b=true):hitP fs a=true:=hitP_iff.mpr fun c hc=>qpD h (hitP_iff.mp q c hc)
def hits (m:Nat) (fs:List Nat):List Nat:=pick (hitP fs) (List.range (2^m))
def qb8 {m:Nat} {fs:List Nat} {a:Nat}:a∈hits m fs↔a<2^m/\hitP fs a=true/\∀b,b<2^m->hitP fs b=true->sub b a->b=a:=by
 unfold hits
 rw [qew ybg,ybh]
 unfold qeB
 simp only [ybh]
def hits_rise (m:Nat) (fs:List Nat):(hits m fs).Pairwise (· < ·):=qeQ ybg
def qfK {m:Nat} {fs:List Nat} {a:Nat} (ha:a<2^m) (h:hitP fs a=true):∃c∈hits m fs,sub c a:=by
 obtain ⟨c,hc,hm,hs⟩:=qdi (hitP fs) (List.range (2^m)) a a (yax _) (ybh.mpr ha) h
 exact ⟨c,(qew ybg).mpr ⟨hc,hm⟩,hs⟩
def qqi {m a b:Nat} (h:sub b a) (ha:a<2^m):b<2^m:=ybi (sub_le h) ha
def mins (L:List Nat):List Nat:=pick (fun _=>true) L
def qdn {L:List Nat} (hL:L.Pairwise (· < ·)) {a:Nat}:a∈mins L↔a∈L/\∀b∈L,sub b a->b=a:=by
 unfold mins
 rw [qew hL]
 unfold qeB
 simp
def qjr {L:List Nat} (hL:L.Pairwise (· < ·)) {b:Nat} (hb:b∈L):∃c∈mins L,sub c b:=by
 obtain ⟨c,hc,hm,hs⟩:=qdi (fun _=>true) L b b (yax _) hb rfl
 exact ⟨c,(qew hL).mpr ⟨hc,hm⟩,hs⟩
def qkA {m:Nat} {fs:List Nat} (hr:fs.Pairwise (· < ·)) (hb:∀b∈fs,b<2^m):hits m (hits m fs)=mins fs:=by
 refine rise_ext (hits_rise _ _) (qeQ hr) fun a=>?_
 rw [qdn hr]
 -- each set of the family meets all hits
 have meet:∀f∈fs,hitP (hits m fs) f=true:=fun f hf=>hitP_iff.mpr fun h hh=>qib.mp (hitP_iff.mp (qb8.mp hh).2.1 f hf)
 -- what meets all hits holds a set of the family
 have hold:∀t,t<2^m->hitP (hits m fs) t=true->∃f∈fs,sub f t:=fun t ht hp=>by
   apply Classical.byContradiction
   intro hn
   have:hitP fs (rst m t)=true:=hitP_iff.mpr fun f hf=>by
     apply Classical.byContradiction
     intro hm
     have hs:sub f (rst m (rst m t)):=(qgd (hb f hf) (rst_lt m t)).mpr fun z=>hm (qib.mp z)
     rw [rst_rst ht] at hs
     exact hn ⟨f,hf,hs⟩
   obtain ⟨c,hc,hs⟩:=qfK (rst_lt m t) this
   exact (qgd (qqi hs (rst_lt m t)) ht).mp hs (qib.mp (hitP_iff.mp hp c hc))
 constructor
 . intro ha
   obtain ⟨h1,h2,h3⟩:=qb8.mp ha
   obtain ⟨f,hf,hs⟩:=hold a h1 h2
   have e:=h3 f (hb f hf) (meet f hf) hs
   subst e
   refine ⟨hf,fun b hbm hsb=>h3 b (hb b hbm) (meet b hbm) hsb⟩
 . rintro ⟨ha,hmin⟩
   refine qb8.mpr ⟨hb a ha,meet a ha,fun b hbl hp hs=>?_⟩
   obtain ⟨f,hf,hsf⟩:=hold b hbl hp
   have e:=hmin f hf (qci hsf hs)
   subst e
   exact qiY hs hsf
end Fam
namespace Fam
def qia (L:List Nat) (a:Nat):Prop:=∀b∈L,sub a b->b=a
instance (L:List Nat) (a:Nat):Decidable (qia L a):=inferInstanceAs (Decidable (∀b∈L,_))
def qgX (L:List Nat) (M:Nat) (hM:∀x∈L,x<M):∀(n b:Nat),M<=b+n->b∈L->∃c∈L,qia L c/\sub b c
 | n,b,hn,hb=>by
   by_cases c:∃d∈L,sub b d/\d≠b
   . obtain ⟨d,hd,hs,hne⟩:=c
     have hlt:b<d:=yao (sub_le hs) (Ne.symm hne)
     match n with
     | 0=>have:=hM b hb;omega
     | n+1 =>
       obtain ⟨e,he,hm,hse⟩:=qgX L M hM n d (by omega) hd
       exact ⟨e,he,hm,qci hs hse⟩
   . refine ⟨b,hb,fun d hd hs=>?_,qdt b⟩
     by_cases e:d=b
     . exact e
     . exact absurd ⟨d,hd,hs,e⟩ c
def sayP (fs:List Nat) (a:Nat):Bool:=fs.any fun b=>decide (sub b a)
def qba {fs:List Nat} {a:Nat}:sayP fs a=true↔∃b∈fs,sub b a:=by
 unfold sayP
 rw [ybj]
 simp only [decide_eq_true_eq]
def say_mins {fs:List Nat} (hr:fs.Pairwise (· < ·)) (a:Nat):sayP (mins fs) a=sayP fs a:=by
 rw [yav,qba,qba]
 constructor
 . rintro ⟨b,hb,hs⟩
   exact ⟨b,((qdn hr).mp hb).1,hs⟩
 . rintro ⟨b,hb,hs⟩
   obtain ⟨c,hc,hs'⟩:=qjr hr hb
   exact ⟨c,hc,qci hs' hs⟩
def nms (n a:Nat):List Nat:=(List.range n).filter fun k=>a.testBit k
def mem_nms {n a k:Nat}:k∈nms n a↔k<n/\a.testBit k=true:=by
 unfold nms
 rw [yay,ybh]
def nms_rise (n a:Nat):(nms n a).Pairwise (· < ·):=ybg.sublist yba
def ofN (L:List Nat):Nat:=L.foldl (fun z k=>z|||2^k) 0
def qkW (L:List Nat) (j:Nat):(ofN L).testBit j=decide (j∈L):=by
 have key:∀(L:List Nat) (z:Nat),(L.foldl (fun z k=>z|||2^k) z).testBit j=(z.testBit j||decide (j∈L)):=fun L=>by
   induction L with
   | nil=>intro z;simp
   | cons k L ih =>
     intro z
     rw [ybk,ih,yam,yaj,Bool.or_assoc]
     congr 1
     by_cases c:k=j
     . subst c;simp
     . simp [c,Ne.symm c]
 unfold ofN
 rw [key]
 simp
def ofN_lt {L:List Nat} {n:Nat} (h:∀k∈L,k<n):ofN L<2^n:=by
 refine Nat.lt_pow_two_of_testBit _ fun k hk=>?_
 rw [qkW,decide_eq_false_iff_not]
 intro z
 have:=h k z
 omega
def ofN_nms {n a:Nat} (h:a<2^n):ofN (nms n a)=a:=by
 refine yac fun j=>?_
 rw [qkW]
 cases hb:a.testBit j with
 | true=>exact decide_eq_true (mem_nms.mpr ⟨qh2 h hb,hb⟩)
 | false=>exact decide_eq_false fun z=>by rw [(mem_nms.mp z).2] at hb;cases hb
end Fam
namespace Fam
def Up (m:Nat) (f:Nat->Bool):Prop:=∀a b,a<2^m->sub b a->f b=true->f a=true
def yes (m:Nat) (f:Nat->Bool):List Nat:=(List.range (2^m)).filter f
def qes (m:Nat) (f:Nat->Bool):(yes m f).Pairwise (· < ·):=ybg.sublist yba
def qcz {m:Nat} {f:Nat->Bool} {a:Nat}:a∈yes m f↔a<2^m/\f a=true:=by
 unfold yes
 rw [yay,ybh]
def qpv {m:Nat} {f:Nat->Bool} (u:Up m f) {a:Nat} (ha:a<2^m):sayP (yes m f) a=f a:=by
 rw [yav,qba]
 constructor
 . rintro ⟨b,hb,s⟩
   exact u a b ha s (qcz.mp hb).2
 . intro h
   exact ⟨a,qcz.mpr ⟨ha,h⟩,qdt a⟩
def qig {m:Nat} {f:Nat->Bool} (u:Up m f) {a:Nat} (ha:a<2^m):sayP (mins (yes m f)) a=f a:=by
 rw [say_mins (qes m f),qpv u ha]
def qpc {m:Nat} {f:Nat->Bool} {a:Nat} (h:a∈mins (yes m f)):a<2^m/\f a=true/\∀k,a.testBit k=true->f (less a k)=false:=by
 obtain ⟨h1,h2⟩:=(qdn (qes m f)).mp h
 obtain ⟨h3,h4⟩:=qcz.mp h1
 refine ⟨h3,h4,fun k hk=>?_⟩
 cases e:f (less a k) with
 | false=>rfl
 | true =>
   have l:=qoG hk
   have:=h2 _ (qcz.mpr ⟨ybl l h3,e⟩) (qmb hk)
   omega
def qgT (a k:Nat):Nat:=a+2^k
def qkD {a k:Nat} (h:a.testBit k=false):qgT a k=a|||2^k:=by
 have hb:(a|||2^k).testBit k=true:=by simp [yam,ybm]
 have e:=xor_bit hb
 have e2:(a|||2^k) ^^^ 2^k=a:=by
   apply yac
   intro j
   rw [yai,yam]
   rcases Nat.decEq k j with z | z
   . rw [Nat.testBit_two_pow_of_ne z]
     simp
   . subst z
     rw [ybm,h]
     rfl
 rw [e2] at e
 unfold qgT
 omega
def qpE {m a k:Nat} (h:a.testBit k=false) (ha:a<2^m) (hk:k<m):qgT a k<2^m:=by
 rw [qkD h]
 exact ybn ha (ybo (by decide) hk)
def qqh (a b:Nat):sub a (a|||b):=qa4.mpr fun k hk=>by simp [yam,hk]
def qlV {a k:Nat} (h:a.testBit k=false):sub a (qgT a k):=by
 rw [qkD h]
 exact qqh _ _
def qpV (L:List Nat):List Nat:=L.filter fun a=>decide (qia L a)
def qeu {L:List Nat} {a:Nat}:a∈qpV L↔a∈L/\qia L a:=by
 unfold qpV
 rw [yay,decide_eq_true_eq]
def qny {m:Nat} {f:Nat->Bool} {a:Nat} (h:a∈qpV (yes m fun s=>!f s)):a<2^m/\f a=false/\∀k,k<m->a.testBit k=false->f (qgT a k)=true:=by
 obtain ⟨h1,h2⟩:=qeu.mp h
 obtain ⟨h3,h4⟩:=qcz.mp h1
 refine ⟨h3,by simpa using h4,fun k hm hk=>?_⟩
 cases e:f (qgT a k) with
 | true=>rfl
 | false =>
   have:=h2 _ (qcz.mpr ⟨qpE hk h3 hm,by simp [e]⟩) (qlV hk)
   unfold qgT at this
   have:=yah k
   omega
def qfs (fs:List Nat) (a:Nat):Bool:=fs.any fun b=>decide (sub a b)
def qcd {fs:List Nat} {a:Nat}:qfs fs a=true↔∃b∈fs,sub a b:=by
 unfold qfs
 rw [ybj]
 simp only [decide_eq_true_eq]
def qpM {m:Nat} {f:Nat->Bool} (u:Up m f) {a:Nat} (ha:a<2^m):qfs (qpV (yes m fun s=>!f s)) a = !f a:=by
 rw [yav,qcd]
 constructor
 . rintro ⟨b,hb,s⟩
   obtain ⟨h1,h2,_⟩:=qny hb
   cases e:f a with
   | false=>rfl
   | true=>rw [u b a h1 s e] at h2;cases h2
 . intro h
   obtain ⟨c,hc,hm,s⟩:=qgX (yes m fun s=>!f s) (2^m) (fun x hx=>(qcz.mp hx).1) (2^m) a (by omega) (qcz.mpr ⟨ha,h⟩)
   exact ⟨c,qeu.mpr ⟨hc,hm⟩,s⟩
def qln {L:List Nat} (h:L.Pairwise (· < ·)):(qpV L).Pairwise (· < ·):=h.sublist yba
def qmc {m:Nat} {fs:List Nat} {a:Nat} (ha:a<2^m):sayP (hits m fs) a=hitP fs a:=by
 rw [yav,qba]
 constructor
 . rintro ⟨b,hb,s⟩
   exact qlc s (qb8.mp hb).2.1
 . intro h
   exact qfK ha h
end Fam
namespace Fam
def rsts (m:Nat) (fs:List Nat):List Nat:=(fs.map (rst m)).reverse
def qdF {m:Nat} {fs:List Nat} {a:Nat}:a∈rsts m fs↔∃b∈fs,rst m b=a:=by
 unfold rsts
 rw [ybp,ybq]
def rsts_rise {m:Nat} {fs:List Nat} (hr:fs.Pairwise (· < ·)) (hb:∀b∈fs,b<2^m):(rsts m fs).Pairwise (· < ·):=by
 unfold rsts
 rw [ybr,ybs]
 refine List.Pairwise.imp_of_mem (fun {a b} ha hb2 h=>?_) hr
 have:=hb a ha
 have:=hb b hb2
 unfold rst
 omega
def rsts_lt {m:Nat} {fs:List Nat}:∀b∈rsts m fs,b<2^m:=fun b hb=>by
 obtain ⟨a,_,rfl⟩:=qdF.mp hb
 exact rst_lt m a
def mins_rise {L:List Nat} (h:L.Pairwise (· < ·)):(mins L).Pairwise (· < ·):=qeQ h
def hits_lt {m:Nat} {fs:List Nat}:∀b∈hits m fs,b<2^m:=fun b hb=>(qb8.mp hb).1
def qkr {m:Nat} {fs:List Nat}:∀a∈hits m fs,∀b∈hits m fs,sub b a->b=a:=fun a ha b hb s=>(qb8.mp ha).2.2 b (qb8.mp hb).1 (qb8.mp hb).2.1 s
def qmI {m:Nat} {fs:List Nat} (hr:fs.Pairwise (· < ·)) (hb:∀b∈fs,b<2^m) {a:Nat} (ha:a<2^m):hitP (hits m fs) a=sayP fs a:=by
 rw [<-qmc ha,qkA hr hb,say_mins hr]
def qiu {m a b:Nat} (ha:a<2^m) (hb:b<2^m) (h:sub (rst m a) (rst m b)):sub b a:=by
 refine qa4.mpr fun k hk=>?_
 have km:=qh2 hb hk
 cases e:a.testBit k with
 | true=>rfl
 | false =>
   have:=qa4.mp h k (by rw [qf9 ha,e];simp [km])
   rw [qf9 hb,hk] at this
   simp at this
def qjy {m:Nat} {fs:List Nat} (hr:fs.Pairwise (· < ·)) (hb:∀b∈fs,b<2^m) {a:Nat} (ha:a<2^m):qfs (rsts m (hits m fs)) a = !sayP fs a:=by
 rw [<-qmI hr hb ha]
 rw [yav,qcd]
 constructor
 . rintro ⟨b,hbm,s⟩
   obtain ⟨c,hc,rfl⟩:=qdF.mp hbm
   have:=(qgd ha (hits_lt c hc)).mp s
   cases e:hitP (hits m fs) a with
   | false=>rfl
   | true=>exact absurd (hitP_iff.mp e c hc) this
 . intro h
   have hn:¬∀c∈hits m fs,mt a c:=fun z=>by rw [hitP_iff.mpr z] at h;cases h
   obtain ⟨c,hc,hmc⟩:∃c∈hits m fs,¬mt a c:=by
     apply Classical.byContradiction
     intro z
     exact hn fun c hc=>Classical.byContradiction fun y=>z ⟨c,hc,y⟩
   exact ⟨_,qdF.mpr ⟨c,hc,rfl⟩,(qgd ha (hits_lt c hc)).mpr hmc⟩
def qkM {m:Nat} {fs:List Nat} (hb:∀b∈fs,b<2^m) (q:∀a∈fs,∀b∈fs,sub b a->b=a):∀a∈rsts m fs,∀b∈rsts m fs,sub b a->b=a:=by
 intro a ha b hbm s
 obtain ⟨c,hc,rfl⟩:=qdF.mp ha
 obtain ⟨d,hd,rfl⟩:=qdF.mp hbm
 rw [q d hd c hc (qiu (hb d hd) (hb c hc) s)]
def qmD {m:Nat} {A B:List Nat} (r1:A.Pairwise (· < ·)) (r2:B.Pairwise (· < ·)) (b1:∀a∈A,a<2^m) (b2:∀a∈B,a<2^m) (m1:∀a∈A,qia A a) (m2:∀a∈B,qia B a) (h:∀a,a<2^m->qfs A a=qfs B a):A=B:=by
 have key:∀{A B:List Nat},(∀a∈A,a<2^m)->(∀a∈B,a<2^m)->(∀a∈A,qia A a)->(∀a,a<2^m->qfs A a=qfs B a)->∀a∈A,a∈B:=by
   intro A B b1 b2 m1 h a ha
   have h1:qfs A a=true:=qcd.mpr ⟨a,ha,qdt a⟩
   rw [h a (b1 a ha)] at h1
   obtain ⟨b,hb,s⟩:=qcd.mp h1
   have h2:qfs B b=true:=qcd.mpr ⟨b,hb,qdt b⟩
   rw [<-h b (b2 b hb)] at h2
   obtain ⟨c,hc,s2⟩:=qcd.mp h2
   have:=m1 a ha c hc (qci s s2)
   rw [this] at s2
   rw [qiY s s2]
   exact hb
 exact rise_ext r1 r2 fun x=>⟨key b1 b2 m1 h x,key b2 b1 m2 (fun a ha=>(h a ha).symm) x⟩
def qr1 {m:Nat} {f:Nat->Bool} (u:Up m f):rsts m (hits m (mins (yes m f)))=qpV (yes m fun s=>!f s):=by
 have r:=mins_rise (qes m f)
 have hb:∀a∈mins (yes m f),a<2^m:=fun a ha=>(qpc ha).1
 refine qmD (m:=m) (rsts_rise (hits_rise m _) hits_lt) (qln (qes m _)) rsts_lt (fun a ha=>(qny ha).1) (fun a ha b hb2 s=>?_) (fun a ha b hb2 s=>?_) fun a ha=>?_
 . exact (qkM hits_lt qkr b hb2 a ha s).symm
 . exact (qeu.mp ha).2 b (qeu.mp hb2).1 s
 . rw [qjy r hb ha,qpM u ha,qig u ha]
end Fam
namespace Fam
def nodup_le:∀(n:Nat) (L:List Nat),L.Nodup->(∀x∈L,x<n)->L.length<=n
 | 0,L,_,h=>by
   cases L with
   | nil=>exact yax _
   | cons a r=>exact absurd (h a (by simp)) (by omega)
 | n+1,L,hn,h=>by
   by_cases hm:n∈L
   . have h1:=nodup_le n (L.erase n) (hn.erase n) fun x hx=>by
       obtain ⟨h2,h3⟩:=hn.mem_erase_iff.mp hx
       have:=h x h3
       omega
     rw [ybt hm] at h1
     omega
   . have:=nodup_le n L hn fun x hx=>by
       have:=h x hx
       have:x≠n:=fun z=>hm (z▸hx)
       omega
     omega
def qfV:List (List Nat):=[[0,1,3,7,15,31,63,127,255],[2,6,14,30,62,126,254],[4,5,13,29,61,125,253],[8,9,11,27,59,123,251],[10,26,58,122,250],[12,28,60,124,252],[16,17,19,23,55,119,247],[18,22,54,118,246],[20,21,53,117,245],[24,25,57,121,249],[32,33,35,39,47,111,239],[34,38,46,110,238],[36,37,45,109,237],[40,41,43,107,235],[42,106,234],[44,108,236],[48,49,51,115,243],[50,114,242],[52,116,244],[56,120,248],[64,65,67,71,79,95,223],[66,70,78,94,222],[68,69,77,93,221],[72,73,75,91,219],[74,90,218],[76,92,220],[80,81,83,87,215],[82,86,214],[84,85,213],[88,89,217],[96,97,99,103,231],[98,102,230],[100,101,229],[104,105,233],[112,113,241],[128,129,131,135,143,159,191],[130,134,142,158,190],[132,133,141,157,189],[136,137,139,155,187],[138,154,186],[140,156,188],[144,145,147,151,183],[146,150,182],[148,149,181],[152,153,185],[160,161,163,167,175],[162,166,174],[164,165,173],[168,169,171],[170],[172],[176,177,179],[178],[180],[184],[192,193,195,199,207],[194,198,206],[196,197,205],[200,201,203],[202],[204],[208,209,211],[210],[212],[216],[224,225,227],[226],[228],[232],[240]]
def qfG:qfV.length=70:=by decide +kernel
def qju:∀a,a<256->(qfV.any fun c=>c.contains a)=true:=by decide +kernel
def qjk:∀c∈qfV,∀a∈c,∀b∈c,sub a b\/sub b a:=by decide +kernel
def qgr (a:Nat):Nat:=qfV.findIdx fun c=>c.contains a
def qfX {a:Nat} (h:a<256):qgr a<70:=by
 rw [<-qfG]
 refine List.findIdx_lt_length_of_exists ?_
 have:=qju a h
 rw [ybj] at this
 exact this
def qfa {a:Nat} (h:a<256):∃c,qfV[qgr a]?=some c/\a∈c:=by
 have h1:qgr a<qfV.length:=by rw [qfG];exact qfX h
 have h2:=List.findIdx_getElem (w:=h1)
 refine ⟨_,ybu h1,?_⟩
 exact List.contains_iff_mem.mp h2
def sperner {fs:List Nat} (hr:fs.Pairwise (· < ·)) (hb:∀b∈fs,b<256) (q:∀a∈fs,∀b∈fs,sub b a->b=a):fs.length<=70:=by
 have hn:(fs.map qgr).Nodup:=by
   unfold List.Nodup
   rw [ybs]
   refine List.Pairwise.imp_of_mem (fun {a b} ha hb2 h=>?_) hr
   intro e
   obtain ⟨c,h1,h2⟩:=qfa (hb a ha)
   obtain ⟨d,h3,h4⟩:=qfa (hb b hb2)
   rw [e,h3] at h1
   have hcd:=Option.some.inj h1
   subst hcd
   rcases qjk _ (ybv h3) a h2 b h4 with s | s
   . have:=q b hb2 a ha s
     omega
   . have:=q a ha b hb2 s
     omega
 have:=nodup_le 70 _ hn fun x hx=>by
   obtain ⟨a,ha,rfl⟩:=ybq.mp hx
   exact qfX (hb a ha)
 simpa using this
end Fam
namespace Fam
def clr (a k:Nat):Nat:=if a.testBit k=true then less a k else a
def qe2 (a k j:Nat):(clr a k).testBit j=(a.testBit j&&decide (j≠k)):=by
 unfold clr
 by_cases h:a.testBit k=true
 . rw [if_pos h,qiz h]
 . rw [if_neg h]
   by_cases e:j=k
   . subst e
     simp at h
     simp [h]
   . simp [e]
def and_pow (b k:Nat):b&&&2^k=if b.testBit k=true then 2^k else 0:=by
 apply yac
 intro j
 rw [yaa,yaj]
 by_cases e:k=j
 . subst e
   cases h:b.testBit k<;>simp [ybm]
 . cases h:b.testBit k<;>simp [e,yaj]
def clr_le (a k:Nat):clr a k<=a:=by
 unfold clr less
 split
 . exact Nat.sub_le _ _
 . exact yax _
def qnX (a k j:Nat):(a|||2^k).testBit j=(a.testBit j||decide (k=j)):=by
 rw [yam,yaj]
def qki {a b k:Nat}:sub (clr b k) a↔sub b (a|||2^k):=by
 rw [qa4,qa4]
 constructor
 . intro h j hj
   rw [qnX]
   by_cases e:k=j
   . simp [e]
   . have:=h j (by rw [qe2,hj];simp;omega)
     simp [this]
 . intro h j hj
   rw [qe2] at hj
   have:=h j (by simp at hj;exact hj.1)
   rw [qnX] at this
   simp at hj this
   rcases this with z | z
   . exact z
   . exact absurd z.symm hj.2
def qi7 {a b k:Nat} (hb:b.testBit k=false):sub b (clr a k)↔sub b a:=by
 rw [qa4,qa4]
 constructor
 . intro h j hj
   have:=h j hj
   rw [qe2] at this
   simp at this
   exact this.1
 . intro h j hj
   rw [qe2,h j hj]
   simp
   rintro rfl
   rw [hb] at hj
   cases hj
def say_congr {fs gs:List Nat} (h:∀x,x∈fs↔x∈gs) (a:Nat):sayP fs a=sayP gs a:=by
 rw [yav,qba,qba]
 constructor
 . rintro ⟨b,hb,s⟩
   exact ⟨b,(h b).mp hb,s⟩
 . rintro ⟨b,hb,s⟩
   exact ⟨b,(h b).mpr hb,s⟩
def say_clr (fs:List Nat) (a k:Nat):sayP (fs.map fun b=>clr b k) a=sayP fs (a|||2^k):=by
 rw [yav,qba,qba]
 constructor
 . rintro ⟨b,hb,s⟩
   obtain ⟨c,hc,rfl⟩:=ybq.mp hb
   exact ⟨c,hc,qki.mp s⟩
 . rintro ⟨c,hc,s⟩
   exact ⟨_,ybq.mpr ⟨c,hc,rfl⟩,qki.mpr s⟩
def outs (fs:List Nat) (k:Nat):List Nat:=fs.filter fun b=>!b.testBit k
def say_outs (fs:List Nat) (a k:Nat):sayP (outs fs k) a=sayP fs (clr a k):=by
 rw [yav,qba,qba]
 constructor
 . rintro ⟨b,hb,s⟩
   obtain ⟨h1,h2⟩:=yay.mp hb
   exact ⟨b,h1,(qi7 (by simpa using h2)).mpr s⟩
 . rintro ⟨b,hb,s⟩
   have hk:b.testBit k=false:=by
     cases e:b.testBit k with
     | false=>rfl
     | true =>
       have:=qa4.mp s k e
       rw [qe2] at this
       simp at this
   exact ⟨b,yay.mpr ⟨hb,by simp [hk]⟩,(qi7 hk).mp s⟩
def say_append (fs gs:List Nat) (a:Nat):sayP (fs++gs) a=(sayP fs a||sayP gs a):=by
 unfold sayP
 rw [ybw]
def qnv {a b c:Nat}:sub (a|||b) c↔sub a c/\sub b c:=by
 rw [qa4,qa4,qa4]
 constructor
 . intro h
   exact ⟨fun k hk=>h k (by simp [yam,hk]),fun k hk=>h k (by simp [yam,hk])⟩
 . rintro ⟨h1,h2⟩ k hk
   rw [yam] at hk
   simp at hk
   rcases hk with z | z
   . exact h1 k z
   . exact h2 k z
def pairs (fs gs:List Nat):List Nat:=fs.flatMap fun a=>gs.map fun b=>a|||b
def say_pairs (fs gs:List Nat) (a:Nat):sayP (pairs fs gs) a=(sayP fs a&&sayP gs a):=by
 rw [yav,yab,qba,qba,qba]
 constructor
 . rintro ⟨b,hb,s⟩
   obtain ⟨c,hc,hd⟩:=ybx.mp hb
   obtain ⟨d,hdg,rfl⟩:=ybq.mp hd
   obtain ⟨s1,s2⟩:=qnv.mp s
   exact ⟨⟨c,hc,s1⟩,⟨d,hdg,s2⟩⟩
 . rintro ⟨⟨c,hc,s1⟩,⟨d,hd,s2⟩⟩
   exact ⟨c|||d,ybx.mpr ⟨c,hc,ybq.mpr ⟨d,hd,rfl⟩⟩,qnv.mpr ⟨s1,s2⟩⟩
def pairs_lt {m:Nat} {fs gs:List Nat} (h1:∀b∈fs,b<2^m) (h2:∀b∈gs,b<2^m):∀b∈pairs fs gs,b<2^m:=by
 intro b hb
 obtain ⟨c,hc,hd⟩:=ybx.mp hb
 obtain ⟨d,hdg,rfl⟩:=ybq.mp hd
 exact ybn (h1 c hc) (h2 d hdg)
def pairs_len (fs gs:List Nat):(pairs fs gs).length=fs.length*gs.length:=by
 unfold pairs
 induction fs with
 | nil=>simp
 | cons a r ih=>rw [List.flatMap_cons,yby,ih,ybz,yca,Nat.succ_mul,Nat.add_comm]
def mins_sub {L:List Nat} (h:L.Pairwise (· < ·)):∀a∈mins L,a∈L:=fun a ha=>((qdn h).mp ha).1
def mins_alone {L:List Nat} (h:L.Pairwise (· < ·)):∀a∈mins L,∀b∈mins L,sub b a->b=a:=fun a ha b hb s=>((qdn h).mp ha).2 b (mins_sub h b hb) s
end Fam
namespace STb
open PySem PySem.SetTable
def Ris (xs:Array Nat):Prop:=xs.toList.Pairwise (· < ·)
def Ris.lt {xs:Array Nat} (h:Ris xs) {i j a b:Nat} (hij:i<j) (ha:xs[i]?=some a) (hb:xs[j]?=some b):a<b:=by
 have h':=ycb.mp h
 rw [<-ycc] at ha hb
 obtain ⟨h1,e1⟩:=ycd.mp ha
 obtain ⟨h2,e2⟩:=ycd.mp hb
 have:=h' i j h1 h2 hij
 rw [e1,e2] at this
 exact this
def Ris.le {xs:Array Nat} (h:Ris xs) {i j a b:Nat} (hij:i<=j) (ha:xs[i]?=some a) (hb:xs[j]?=some b):a<=b:=by
 rcases yag i j with z | z
 . exact yce (h.lt z ha hb)
 . have:i=j:=by omega
   subst this
   rw [ha] at hb
   cases hb
   exact yax _
def qhX {xs:Array Nat} (h:Ris xs) (j:Nat):∀(fuel lo hi:Nat),hi-lo<=fuel->lo<=hi->hi<=xs.size ->
   (∀i y,i<lo->xs[i]?=some y->y<j)->(∀i y,hi<=i->xs[i]?=some y->j<=y) ->
   below.go xs j fuel lo hi<=xs.size/\(∀i y,i<below.go xs j fuel lo hi->xs[i]?=some y->y<j)/\(∀i y,below.go xs j fuel lo hi<=i->xs[i]?=some y->j<=y)
 | 0,lo,hi,hf,hl,hs,h1,h2=>by
   have:lo=hi:=by omega
   subst this
   exact ⟨hs,h1,h2⟩
 | fuel+1,lo,hi,hf,hl,hs,h1,h2=>by
   rw [below.go]
   by_cases hlt:lo<hi
   . rw [if_pos hlt]
     dsimp only
     have hm:(lo+hi)/2<xs.size:=by omega
     have hg:xs[(lo+hi)/2]?=some (xs.getD ((lo+hi)/2) j):=by simp [Array.getD,hm]
     by_cases hc:xs.getD ((lo+hi)/2) j<j
     . rw [if_pos hc]
       refine qhX h j fuel _ _ (by omega) (by omega) hs (fun i y hi' e=>?_) h2
       exact ybi (h.le (by omega) e hg) hc
     . rw [if_neg hc]
       refine qhX h j fuel _ _ (by omega) (by omega) (by omega) h1 (fun i y hi' e=>?_)
       exact ycf (ycg.mp hc) (h.le hi' hg e)
   . rw [if_neg hlt]
     have:lo=hi:=by omega
     subst this
     exact ⟨hs,h1,h2⟩
def qdH {xs:Array Nat} (h:Ris xs) (j:Nat):below xs j<=xs.size/\(∀i y,i<below xs j->xs[i]?=some y->y<j)/\(∀i y,below xs j<=i->xs[i]?=some y->j<=y) :=
 qhX h j xs.size 0 xs.size (by omega) (ych _) (yax _) (fun i y hi=>by omega) (fun i y hi e=>by
   rw [yci (by omega)] at e
   cases e)
def qjg {xs:Array Nat} (h:Ris xs):below xs 0=0:=by
 obtain ⟨h0,h1,_⟩:=qdH h 0
 rcases ycj (below xs 0) with z | z
 . exact z
 . have hlt:0<xs.size:=by omega
   have:=h1 0 xs[0] z (by simp)
   omega
def qjd {xs:Array Nat} (h:Ris xs) {i y:Nat} (e:xs[i]?=some y):below xs (y+1)=i+1:=by
 obtain ⟨h0,h1,h2⟩:=qdH h (y+1)
 have hi:i<xs.size:=by
   rcases yag i xs.size with z | z
   . exact z
   . rw [yci z] at e;cases e
 have g1:¬below xs (y+1)<=i:=fun z=>by have:=h2 i y z e;omega
 have g2:¬i+1<below xs (y+1):=fun z=>by
   have hlt:i+1<xs.size:=by omega
   have q:=h1 (i+1) xs[i+1] z (by simp [hlt])
   have q':=h.lt (yck i) e (show xs[i+1]?=some xs[i+1] by simp [hlt])
   omega
 omega
def qeS {α:Type} (xs:Array α) (p:Nat) (hp:p<=xs.size) (x:α):(insertAt xs p x).toList=xs.toList.take p++x::xs.toList.drop p:=by
 unfold insertAt
 have e2:(xs.extract p xs.size).toList=xs.toList.drop p:=by
   rw [ycl,List.extract_eq_drop_take]
   have:xs.size-p=(xs.toList.drop p).length:=by rw [ycm,ycn]
   rw [this,yco]
 have e1:(xs.extract 0 p).toList=xs.toList.take p:=by
   rw [ycl,List.extract_eq_drop_take]
   rfl
 rw [Array.toList_append,ycp,e1,e2,ycq]
 rfl
def qpL {t:SetTable} (h:Ris t.place) {j:Nat} (hj:t.place[below t.place j]?≠some j):Ris (t.put j).1.place:=by
 obtain ⟨h0,h1,h2⟩:=qdH h j
 unfold SetTable.put Ris
 dsimp only
 rw [qeS _ _ h0]
 have hp:(t.place.toList.take (below t.place j)++t.place.toList.drop (below t.place j)).Pairwise (· < ·):=by rw [ycr];exact h
 obtain ⟨p1,p2,p3⟩:=yar.mp hp
 refine yar.mpr ⟨p1,ybc.mpr ⟨fun y hy=>?_,p2⟩,fun x hx y hy=>?_⟩
 . obtain ⟨i,e⟩:=ycs hy
   rw [yct,ycc] at e
   have q:=h2 _ y (Nat.le_add_right _ _) e
   rcases yag j y with z | z
   . exact z
   . exfalso
     have ey:y=j:=by omega
     subst ey
     cases i with
     | zero=>exact hj (by simpa using e)
     | succ i =>
       have hlt:below t.place y<t.place.size:=by
         rcases yag (below t.place y+(i+1)) t.place.size with z | z
         . omega
         . rw [yci z] at e;cases e
       have q1:=h2 (below t.place y) t.place[below t.place y] (yax _) (by simp)
       have q2:=h.lt (show below t.place y<below t.place y+(i+1) by omega) (show t.place[below t.place y]?=some t.place[below t.place y] by simp) e
       omega
 . have hx':x<j:=by
     obtain ⟨i,e⟩:=ycs hx
     rw [ycu] at e
     split at e
     . rename_i hi
       rw [ycc] at e
       exact h1 i x hi e
     . cases e
   rcases ybd.mp hy with rfl | hy
   . exact hx'
   . exact p3 x hx y hy
def qe9 (t:SetTable) (j:Nat):Prop:=t.place[below t.place j]?≠some j
def qed {t:SetTable} {j:Nat} (h:∀i,t.slot j ≠ .live i):qe9 t j:=by
 intro e
 unfold SetTable.slot at h
 dsimp only at h
 rw [if_pos (by rw [e];simp)] at h
 exact h _ rfl
def qgL {t:SetTable} {h:Int}:∀(fuel:Nat) (p:Probe) (j:Nat) (d:Option Nat),(∀x,p.dummy=some x->qe9 t x)->probe.go t (fun _=>h+1) h fuel p=some (.empty j d)->qe9 t j/\∀x,d=some x->qe9 t x
 | 0,p,j,d,_,e=>by rw [probe.go] at e;cases e
 | fuel+1,p,j,d,hp,e=>by
   rw [probe.go] at e
   cases hs:t.slot p.j with
   | empty =>
     rw [hs] at e
     cases e
     exact ⟨qed (fun i z=>by rw [hs] at z;exact (nomatch z)),hp⟩
   | dummy =>
     rw [hs] at e
     refine qgL fuel _ j d (fun x hx=>?_) e
     have:(t.advance { p with dummy:=some p.j }).dummy=some p.j:=by unfold SetTable.advance;dsimp only;split<;>rfl
     rw [this] at hx
     cases hx
     exact qed fun i z=>by rw [hs] at z;cases z
   | live i =>
     rw [hs] at e
     dsimp only at e
     rw [if_neg (by simp;omega)] at e
     refine qgL fuel _ j d (fun x hx=>hp x ?_) e
     have:(t.advance p).dummy=p.dummy:=by unfold SetTable.advance;dsimp only;split<;>rfl
     rw [this] at hx
     exact hx
def qhC {t:SetTable} {h:Int} {j:Nat} {b:Bool} (e:t.freeSlot h=some (j,b)):qe9 t j:=by
 unfold SetTable.freeSlot at e
 split at e
 . rename_i k d hd
   cases e
   obtain ⟨q1,q2⟩:=qgL _ _ _ _ (by intro x hx;cases hx) hd
   cases d with
   | none=>exact q1
   | some x=>exact q2 x rfl
 . cases e
def qkQ (n:Nat):Ris (Array.range n):=by
 unfold Ris
 rw [Array.toList_range]
 exact ybg
def qcn (t:SetTable) (n:Nat):Ris (t.standIn n).place:=qkQ n
def qjv {t:SetTable} {es:Array (Int×Value)} {h:Int} {x:Value} (hr:Ris t.place):Ris (layNew t es h x).2.1.place/\(layNew t es h x).2.1.led=t.led:=by
 unfold layNew
 split
 . rename_i slot wd e
   dsimp only
   unfold SetTable.orStandIn
   split
   . exact ⟨qpL hr (qhC e),rfl⟩
   . exact ⟨qcn _ _,rfl⟩
 . exact ⟨qcn _ _,rfl⟩
def qlR {mask finger moves:Nat} {led plain:Bool} {hashes:Array Int} {t:SetTable} {o:Array Nat} (e:laid mask finger moves led plain hashes=some (t,o)):Ris t.place/\t.led=led:=by
 unfold laid at e
 cases hc:layClean mask hashes with
 | none=>rw [hc] at e;cases e
 | some owner =>
   rw [hc] at e
   have e':=Option.some.inj e
   have e1:=congrArg Prod.fst e'
   dsimp only at e1
   subst e1
   refine ⟨?_,rfl⟩
   unfold Ris
   dsimp only
   have key:∀l:List Nat,l.Pairwise (· < ·)->((l.filterMap fun j=>(owner.getD j none).map (j,·)).map (·.1)).Pairwise (· < ·):=by
     intro l
     induction l with
     | nil=>intro _;exact List.Pairwise.nil
     | cons a r ih =>
       intro hp
       obtain ⟨h1,h2⟩:=ybc.mp hp
       rw [ycv]
       split
       . exact ih h2
       . rename_i b hb
         rw [ycw]
         refine ybc.mpr ⟨fun y hy=>?_,ih h2⟩
         have hb':b.1=a:=by
           cases hq:owner.getD a none with
           | none=>rw [hq] at hb;cases hb
           | some z=>rw [hq] at hb;cases hb;rfl
         rw [hb']
         obtain ⟨q,hq,rfl⟩:=ybq.mp hy
         obtain ⟨z,hz,e⟩:=ycx.mp hq
         have:q.1=z:=by
           cases hq2:owner.getD z none with
           | none=>rw [hq2] at e;cases e
           | some v=>rw [hq2] at e;cases e;rfl
         rw [this]
         exact h1 z hz
   simpa using key (List.range (mask+1)) ybg
def qhD {t:SetTable} {es:Array (Int×Value)} {wanted:Nat}:Ris (relayAll t es wanted).2.1.place/\(relayAll t es wanted).2.1.led=t.led:=by
 unfold relayAll
 split
 . rename_i t' order e
   dsimp only
   split
   . unfold SetTable.relaid at e
     exact qlR e
   . exact ⟨qcn _ _,rfl⟩
 . exact ⟨qcn _ _,rfl⟩
end STb
namespace STb
open PySem PySem.SetTable PyProof.Rows
def kI:Value->Option Int
 | .int n _=>some n
 | _=>none
def qn1 {prog:Program} {w:World} {k:Int} {v:Value}:(intKind prog w).is k v=true↔kI v=some k:=by
 constructor
 . intro h
   cases v<;>first
     | (rename_i n t;have:n=k:=by simpa [intKind,Value.isInt] using h
        rw [this];rfl)
     | (exfalso;simp [intKind,Value.isInt] at h)
 . intro h
   cases v<;>first
     | (rename_i n t;cases h;exact intKind_is _ _ _ _)
     | cases h
def RS (prog:Program) (w:World) (h:Heap) (a:Addr) (ns:List Int):Prop :=
 ∃es ep t,h.get? a=some { cls := .type "set",dict:=none,data := .set es ep t }/\ElemsOf (intKind prog w) es.toList/\(es.toList.map fun e=>kI e.2).Perm (ns.map some)/\es.size<scanBound/\t.fits es.size=true /\
   Ris t.place/\t.led = !w.params.followText "set-order" /\ ns.Nodup
def RS.keep {prog:Program} {w:World} {h h':Heap} {a:Addr} {ns:List Int} (r:RS prog w h a ns) (k:∀o,h.get? a=some o->h'.get? a=some o):RS prog w h' a ns:=by
 obtain ⟨es,ep,t,e,q⟩:=r
 exact ⟨es,ep,t,k _ e,q⟩
def RS.len {prog:Program} {w:World} {h:Heap} {a:Addr} {ns:List Int} (r:RS prog w h a ns):ns.length<scanBound:=by
 obtain ⟨es,ep,t,e,_,p,b,_⟩:=r
 have:=p.length_eq
 rw [ybz,ybz,ycn] at this
 omega
def qc9 (ns:List Int) (n:Int):List Int:=if n∈ns then ns else ns++[n]
def qgq {ns:List Int} {n:Int} (h:ns.Nodup):(qc9 ns n).Nodup:=by
 unfold qc9
 split
 . exact h
 . rename_i hn
   exact List.nodup_append.mpr ⟨h,by simp,fun a ha b hb e=>hn (by simp at hb;rw [<-hb,<-e];exact ha)⟩
def qhh {ns:List Int} {n k:Int}:k∈qc9 ns n↔k∈ns\/k=n:=by
 unfold qc9
 split
 . rename_i hn
   exact ⟨.inl,fun h=>h.elim id fun e=>e▸hn⟩
 . simp
def qlj (ns:List Int) (n:Int):(qc9 ns n).length<=ns.length+1:=by
 unfold qc9
 split
 . omega
 . simp
section
variable {prog:Program} {w:World} {A:Around} {E:Value->Shared->Prop} {s:Shared} {a:Addr}
def qq7 {ns:List Int} {n:Int} {tk:Tok} {Q:Bool->Shared->Prop} (r:RS prog w s.heap a ns) (room:ns.length+1<scanBound)
   (h:∀b h',Heap.SameBut a s.heap h'->RS prog w h' a (qc9 ns n)->Q b { s with heap:=h' }) :
   wpAny (model prog w) A (setAddHashed a (.int n tk) ((intKind prog w).hash n)) Q E s:=by
 obtain ⟨es,ep,t,ho,el,pm,bd,ft,rs,ld,nd⟩:=r
 have hsz:es.size=ns.length:=by
   have:=pm.length_eq
   rwa [ybz,ybz,ycn] at this
 have hkey:(intKind prog w).is n (.int n tk)=true:=intKind_is _ _ _ _
 have memk:∀k:Int,k∈ns↔∃e∈es.toList,(intKind prog w).is k e.2=true:=fun k=>by
   have:k∈ns↔some k∈ns.map some:=by simp
   rw [this,<-pm.mem_iff,ybq]
   exact ⟨fun ⟨e,he,q⟩=>⟨e,he,qn1.mpr q⟩,fun ⟨e,he,q⟩=>⟨e,he,qn1.mp q⟩⟩
 unfold setAddHashed setAddHashedIn
 refine wpAny_holding (wpAny_bind (wpAny_setState_of ho rfl ft ?_))
 dsimp only
 rw [byScan_of (x := .int n tk) rfl bd el]
 simp only [if_true]
 unfold setAddByScan
 refine wpAny_bind (wpAny_bind (wpAny_rule (wpAny_bind (wpAny_setScan_of hkey ho rfl ft el ?_))))
 cases hr:List.findIdx? (fun e=>(intKind prog w).is n e.2) es.toList with
 | some j =>
   dsimp only
   obtain ⟨hj,hpj,_⟩:=List.findIdx?_eq_some_iff_getElem.mp hr
   have hin:n∈ns:=(memk n).mpr ⟨_,ycy hj,hpj⟩
   refine wpAny_pure (wpAny_pure ?_)
   have q:=h false s.heap (Heap.SameBut.refl a s.heap) (by rw [show qc9 ns n=ns from if_pos hin];exact ⟨es,ep,t,ho,el,pm,bd,ft,rs,ld,nd⟩)
   exact q
 | none =>
   dsimp only
   have hnot:¬n∈ns:=fun z=>by
     obtain ⟨e,he,q⟩:=(memk n).mp z
     have:=List.findIdx?_eq_none_iff.mp hr e he
     rw [q] at this
     cases this
   have pN:=layNew_perm t es ((intKind prog w).hash n) (.int n tk)
   have fN:=layNew_fits t es ((intKind prog w).hash n) (.int n tk)
   have rN:=qjv (es:=es) (h:=(intKind prog w).hash n) (x := .int n tk) rs
   generalize layNew t es ((intKind prog w).hash n) (.int n tk)=L at pN fN rN ⊢
   obtain ⟨e1,t1,wd,gv⟩:=L
   dsimp only at pN fN rN ⊢
   rw [ycp] at pN
   have el1:ElemsOf (intKind prog w) e1.toList:=(el.push hkey rfl).perm pN
   have pm1:(e1.toList.map fun e=>kI e.2).Perm ((qc9 ns n).map some):=by
     rw [show qc9 ns n=ns++[n] from if_neg hnot,ycz]
     refine (pN.map fun e=>kI e.2).trans ?_
     rw [ycz]
     exact pm.append (List.Perm.refl _)
   have sz1:e1.size=es.size+1:=by
     rw [<-ycn,pN.length_eq,yby,ycn]
     rfl
   have bd1:e1.size<scanBound:=by omega
   have nd1:=qgq (n:=n) nd
   have gw:∀(b:Bool) (s₁:Shared) (Q':Unit->Shared->Prop),Q' () s₁->wpAny (model prog w) A (match b with | true=>rule "set.scan.the-table-gave-way" | false=>pure ()) Q' E s₁:=fun b s₁ Q' q=>by
     cases b
     . exact wpAny_pure q
     . exact wpAny_rule q
   refine wpAny_bind (gw gv _ _ ?_)
   have tail:∀t2:SetTable,t2.fits e1.size=true->Ris t2.place->t2.led=t.led->wpAny (model prog w) A (do
       storeSet a e1 t2
       if (!wd&&t2.tooFull)=true then do
           (match (relayAll t2 e1 (SetTable.grown e1.size)).2.2 with | true=>rule "set.scan.the-table-gave-way" | false=>pure ())
           storeSet a (relayAll t2 e1 (SetTable.grown e1.size)).1 (relayAll t2 e1 (SetTable.grown e1.size)).2.1
           pure (some true)
         else pure (some true)) (fun r s'=>∃b,r=some b/\Q b s') E s:=fun t2 f2 r2 l2=>by
     refine wpAny_bind (wpAny_storeSet_of ho rfl ?_ (fits_of_scanBound bd1))
     have g1:(s.heap.update a (Obj.putSet e1 t2)).get? a=some { cls := .type "set",dict:=none,data := .set e1 (ep+1) t2 }:=yda (Obj.putSet e1 t2) ho rfl
     have sb1:=Heap.SameBut.update s.heap a (Obj.putSet e1 t2)
     split
     . have pR:=relayAll_perm t2 e1 (SetTable.grown e1.size)
       have fR:=relayAll_fits t2 e1 (SetTable.grown e1.size)
       have rR:=qhD (t:=t2) (es:=e1) (wanted:=SetTable.grown e1.size)
       generalize relayAll t2 e1 (SetTable.grown e1.size)=L2 at pR fR rR ⊢
       obtain ⟨e3,t3,g3⟩:=L2
       dsimp only at pR fR rR ⊢
       have sz3:e3.size=e1.size:=by rw [<-ycn,pR.length_eq,ycn]
       refine wpAny_bind (gw g3 _ _ (wpAny_bind (wpAny_storeSet_of g1 rfl ?_ (fits_of_scanBound (by omega)))))
       exact wpAny_pure ⟨true,rfl,h true _ (sb1.trans (Heap.SameBut.update _ a _)) ⟨e3,_,t3,yda (Obj.putSet e3 t3) g1 rfl,el1.perm pR,(pR.map _).trans pm1,by omega,fR,rR.1,by rw [rR.2,l2];exact ld,nd1⟩⟩
     . exact wpAny_pure ⟨true,rfl,h true _ sb1 ⟨e1,_,t2,g1,el1,pm1,bd1,f2,r2,by rw [l2];exact ld,nd1⟩⟩
   have fin:∀(r:Option Bool) (s':Shared),(∃b,r=some b/\Q b s')->wpAny (model prog w) A (match r with | some added=>pure added | none=>setAddHashedIn a (.int n tk) ((intKind prog w).hash n) 99999) Q E s':=fun r s' ⟨b,e,q⟩=>by
     subst e
     exact wpAny_pure q
   split
   . refine wpAny_bind ?_
     rw [hashByValue_scannable 8 (x := .int n tk) rfl]
     refine wpAny_pure ?_
     refine wpAny_mono (tail t1 fN rN.1 rN.2) (fun r s' q=>?_) fun _ _ z=>z
     exact fin r s' q
   . refine wpAny_bind (wpAny_pure ?_)
     refine wpAny_mono (tail t1 fN rN.1 rN.2) (fun r s' q=>?_) fun _ _ z=>z
     exact fin r s' q
end
end STb
namespace STb
open PySem PySem.SetTable PyProof.Rows
def qcg (val:Nat->Int) (i:Nat):List Int:=((List.range i).map val).foldl qc9 []
def qcO (val:Nat->Int) (i:Nat):qcg val (i+1)=qc9 (qcg val i) (val i):=by
 unfold qcg
 rw [ydb,ycz,yaq]
 rfl
def qfi (val:Nat->Int):∀i,(qcg val i).length<=i
 | 0=>ych _
 | i+1=>by
   rw [qcO]
   have h1:=qlj (qcg val i) (val i)
   have h2:=qfi val i
   omega
def qgV (val:Nat->Int) (k:Int):∀i,k∈qcg val i↔∃j,j<i/\val j=k
 | 0=>by simp [qcg]
 | i+1=>by
   rw [qcO,qhh,qgV val k i]
   constructor
   . rintro (⟨j,hj,e⟩ | e)
     . exact ⟨j,by omega,e⟩
     . exact ⟨i,by omega,e.symm⟩
   . rintro ⟨j,hj,e⟩
     by_cases z:j=i
     . exact .inr (by rw [<-e,z])
     . exact .inl ⟨j,by omega,e⟩
section
variable {prog:Program} {w:World} {A:Around} {R:Result->Shared->Prop} {I:Addr} {fp wr:List Addr} {G:Array GenState->Array GenState->Prop} {n:Nat} {P:Nat->Value->Prop} {St:Nat->Shared->Prop}
def qkv (W:WalksS prog w A.in1 I fp wr G n P St) (S:Addr) (out:S∉fp) (val:Nat->Int) (hv:∀i v,P i v->∃t,v = .int (val i) t) (room:∀i,i<=n->(qcg val i).length+1<scanBound) :
   ∀(k i:Nat) (s:Shared),n-i=k->i<=n->St i s->RS prog w s.heap S (qcg val i) ->
     (∀s',Moved (S::wr) G s s'->RS prog w s'.heap S (qcg val n)->R (.ok (.ret .none)) s')->codeAny (model prog w) A (.builtin "set.update.loop" ⟨[.ref S,.ref I],[]⟩) R s:=by
 have nw:S∉wr:=fun z=>out (W.sub _ z)
 have sub:∀b∈wr,b∈S::wr:=fun b z=>ybe _ z
 intro k
 induction k with
 | zero =>
   intro i s hk hi st r fin
   have:i=n:=by omega
   subst this
   refine codeAny_builtin F.entry_set_update_loop ?_
   rw [Around.under_plainId F.plain_set_update_loop _]
   refine wpAny_bind (m:=pyNext (.ref I)) (W.done s _ _ st fun s' mv=>?_)
   exact wpAny_pure (fin s' (mv.mono sub) (r.keep fun o e=>mv.heap S o nw e))
 | succ k ih =>
   intro i s hk hi st r fin
   have hlt:i<n:=by omega
   refine codeAny_builtin F.entry_set_update_loop ?_
   rw [Around.under_plainId F.plain_set_update_loop _]
   refine wpAny_bind (m:=pyNext (.ref I)) (W.item i s _ _ hlt st fun v s' pv st' mv=>?_)
   obtain ⟨t,rfl⟩:=hv i v pv
   have r':=r.keep (h':=s'.heap) fun o e=>mv.heap S o nw e
   show wpAny _ A.in1 (holding [Value.int (val i) t] (setAdd S (.int (val i) t)) >>= _) _ _ s'
   refine wpAny_bind (wpAny_holding ?_)
   unfold setAdd
   refine wpAny_holding (wpAny_bind ((intKind prog w).pyHash (k:=val i) (intKind_is _ _ _ _) ?_))
   refine qq7 (s:={ s' with toks:=s'.toks+1 }) r' (room i hi) fun b h' sb r2=>?_
   refine wpAny_pure ⟨plainId_quiet F.plain_set_update_loop _,ih (i+1) _ (by omega) hlt (W.frame _ s' _ _ st' (ydc _) fun b hb o e=>?_) (by rw [qcO];exact r2) fun s2 mv2 r3=>?_⟩
   . rw [sb.2 b fun z=>out (z▸hb)];exact e
   . refine fin s2 (Moved.trans W.gtrans ((mv.mono sub).then_heap (ydc _) fun b o hb e=>?_) mv2) r3
     rw [sb.2 b fun z=>hb (z▸ybb)];exact e
end
section
variable {prog:Program} {w:World} {A:Around} {E:Value->Shared->Prop} {s:Shared}
abbrev qc2 (b:Bool):Obj:={ cls := .type "set",dict:=none,data := .set #[] 0 (.fresh 0 0 b) }
def qmJ {h:Heap} {a:Addr} (e:h.get? a=some (qc2 (!w.params.followText "set-order"))):RS prog w h a [] :=
 ⟨#[],0,_,e,fun _ z=>by simp at z,List.Perm.refl _,by show 0<4096;decide,rfl,List.Pairwise.nil,rfl,List.nodup_nil⟩
def qpb (v:Value) {Q₁:Value->Shared->Prop} (h:Q₁ (.ref s.heap.objs.size) { s with heap:=s.heap.push (qc2 (!w.params.followText "set-order")) }) :
   codeAny (model prog w) A (.call (.builtin "set.__new__") ⟨[.type "set",v],[]⟩) (wants Q₁ E) s:=by
 refine codeAny_of_tree ?_
 refine wpAny_bind (m:=checkBuiltinCall "set.__new__" ⟨[.type "set",v],[]⟩) (wpAny_of_eq (F.newCall_set_1 v) (wpAny_pure ⟨plainId_quiet F.plain_set_new _,codeAny_builtin F.entry_set_new ?_⟩))
 rw [Around.under_plainId F.plain_set_new _]
 unfold Builtin.«set.__new__» Builtin.Frozenset.newClass
 have sub0:=sub_set_self
 obtain ⟨hp,g,d,tk,os⟩:=s
 dsimp only
 wp_walk
 refine wpAny_askSetting (wpAny_pure ?_)
 dsimp only
 simp only [newObj]
 exact wpAny_bind (wpAny_alloc (wpAny_pure (wpAny_pure h)))
set_option maxHeartbeats 3200000 in
def qkd {l:Addr} {its:Array Value} {ns:List Int} {Q:Value->Shared->Prop} (hh:A.handled=none) (hl:s.heap.IsList l its) (hi:IntsAre its.toList ns) (room:∀i,i<=its.size->(qcg (fun i=>ns.getD i 0) i).length+1<scanBound)
   (h:∀(h':Heap) (tk:Nat),RS prog w h' s.heap.objs.size (qcg (fun i=>ns.getD i 0) its.size)->(∀b o,b<s.heap.objs.size->s.heap.get? b=some o->h'.get? b=some o)->Q (.ref s.heap.objs.size) { s with heap:=h',toks:=tk }) :
   wpAny (model prog w) A (call (.type "set") [.ref l]) Q E s:=by
 obtain ⟨c,tl,mro⟩:=F.called_set.mro
 have made:=F.called_set.made
 have sub1:=F.called_set.sub
 refine wpAny_call (codeAny_of_tree (wpAny_pure ⟨Code.quiet_builtin _ (by decide +kernel),codeAny_builtin F.entry_type_call ?_⟩))
 rw [Around.under_plain (weight_type_call_type "set" [.ref l] []) rfl]
 have nt:=F.called_set.notType
 have cc:=F.called_set.canCreate
 have tc:=F.typeCall_set_1 (.ref l)
 repeat (any_goals (first | assumption | wp_step))
 refine codeAny_mono (qpb (.ref l) (E:=E) (Q₁:=fun obj s₁=>obj = .ref s.heap.objs.size/\s₁={ s with heap:=s.heap.push (qc2 (!w.params.followText "set-order")) }) ⟨rfl,rfl⟩) fun r s₁ hr=>?_
 cases r with
 | error e=>exact hr
 | ok fl =>
   cases fl with
   | ret obj =>
     obtain ⟨rfl,rfl⟩:=hr
     have g0:(s.heap.push (qc2 (!w.params.followText "set-order"))).get? s.heap.objs.size=some (qc2 (!w.params.followText "set-order")):=ydd _ rfl
     have ty:Shared.TypeIs { s with heap:=s.heap.push (qc2 (!w.params.followText "set-order")) } (.ref s.heap.objs.size) "set" := ⟨_,g0,rfl⟩
     have li:=F.called_set.init.lookup
     have bi:=F.called_set.init.bind (.ref s.heap.objs.size)
     repeat (any_goals (first | assumption | wp_step))
     refine codeAny_mono (codeAny_call_builtin (R:=wants (fun r s₂=>r = .none/\∃h' tk,s₂={ s with heap:=h',toks:=tk }/\RS prog w h' s.heap.objs.size (qcg (fun i=>ns.getD i 0) its.size) /\
         (∀b o,b<s.heap.objs.size->s.heap.get? b=some o->h'.get? b=some o)) E) F.called_set.init.plain F.entry_set_init (check_set_init_1 ty ?_)) fun r₂ s₂ hr₂=>?_
     . obtain ⟨⟨oc,od,ot,osl⟩,e0,ec,nl,ed⟩:=hl
       simp only at ec ed
       subst ec ed
       have e1:(s.heap.push (qc2 (!w.params.followText "set-order"))).get? l=some ⟨.type "list",od,.seq its nl,osl⟩:=yde _ e0
       have q1:=F.sub_list_set
       have q2:=F.sub_list_frozenset
       have q3:(Value.type "list" == Value.type "dict")=false:=by decide
       have il:(s.heap.push (qc2 (!w.params.followText "set-order"))).IsList l its:=⟨_,e1,rfl,nl,rfl⟩
       unfold Builtin.«set.__init__» noKeywords Builtin.Frozenset.updateFrom
       generalize pI:pyIter=PIt
       wp_walk
       subst pI
       refine wpAny_pyIter_list il (wpAny_bind (wpAny_runValue ?_))
       have hlt:l<s.heap.objs.size:=ydf e0
       have hh3:A.in1.in1.in1.handled=none:=by simp [hh]
       have ne1:l≠(s.heap.push (qc2 (!w.params.followText "set-order"))).objs.size:=by
         rw [ydg]
         exact ydh (ydi hlt)
       have ne2:s.heap.objs.size∉[(s.heap.push (qc2 (!w.params.followText "set-order"))).objs.size,l]:=by
         rw [ydg]
         simp only [ybd,ydj,or_false,not_or]
         exact And.intro (ydh (yck _)) (ydk hlt)
       refine qkv ((Walks.list hh3 _ l ne1 its).toS) s.heap.objs.size ne2 (fun i=>ns.getD i 0) (fun i v e=>IntsAre.int_at hi i v (by rw [ycc];exact e)) room (its.size-0) 0 _ (by omega) (ych _)
         ⟨⟨_,ydd _ rfl,rfl,rfl⟩,il.push _⟩ (qmJ (yde _ g0)) ?_
       intro s' mv r'
       obtain ⟨h',g',d',tk',os'⟩:=s'
       have eg:g'=s.gens:=mv.gens
       have ed:d'=s.drawn:=mv.drawn
       have eo:os'=s.os:=mv.os
       subst eg ed eo
       refine wpAny_pure (wpAny_pure ⟨rfl,h',tk',rfl,r',fun b o hb e=>?_⟩)
       refine mv.heap b o ?_ (yde _ (yde _ e))
       rw [ydg]
       simp only [ybd,ydj,or_false,not_or]
       exact And.intro (ydh hb) (ydh (ydi hb))
     . cases r₂ with
       | error e=>exact hr₂
       | ok fl₂ =>
         cases fl₂ with
         | ret r =>
           obtain ⟨rfl,h',tk,rfl,r',kp⟩:=hr₂
           repeat (any_goals (first | assumption | wp_step))
           exact h _ _ r' kp
         | _=>exact hr₂.elim
   | _=>exact hr.elim
end
end STb
namespace STb
open PySem PySem.SetTable PyProof.Rows
def qbF:Slot "set_iterator" "__next__" "set_iterator.__next__" :=
 Slot.of (owner := "set_iterator") (n := "__next__") (by (rw [typeLookup_type,builtinLookup_eq_fast]);kernel_rfl) (by decide +kernel) (by decide +kernel) (by decide +kernel) (by first | (exact Or.inl (by decide +kernel)) | (exact Or.inr (by decide +kernel))) (by (rw [isSubtype_type]);kernel_rfl)
def qer:entryFor table "set_iterator.__next__" = some Builtin.«set_iterator.__next__»:=entryFor_of_tree (by kernel_rfl)
def qgc (a:Value):argsOk "set_iterator.__next__" ⟨[a],[]⟩:=by unfold argsOk;kernel_rfl
def qjx:entryFor table "set.__iter__" = some Builtin.«frozenset.__iter__»:=entryFor_alias (id' := "frozenset.__iter__") (by kernel_rfl) (by decide +kernel) (by decide +kernel) (by kernel_rfl)
def qdJ {α:Type}:∀(l:List α) (i:Nat) (h:i<l.length),(l[i]::l.eraseIdx i).Perm l
 | [],i,h=>by cases h
 | x::r,0,h=>List.Perm.refl _
 | x::r,i+1,h=>(List.Perm.swap _ _ _).trans (List.Perm.cons _ (qdJ r i (ydl h)))
def qhj:typeLookup (.type "set") "__len__" = pure (some (.builtin "set.__len__")):=by (rw [typeLookup_type,builtinLookup_eq_fast]);kernel_rfl
def qic:isSubtype (.type "set") (.type "set")=pure true:=by (rw [isSubtype_type]);kernel_rfl
def qlm {α:Type} (nx:Nat->Nat):∀(fuel k:Nat) (left:List α) (out:Array α),left.length=fuel->(pickOrder.go nx fuel k left out).toList.Perm (out.toList++left)
 | 0,k,left,out,h=>by
   rw [pickOrder.go]
   rw [ydm.mp h,ydn]
 | fuel+1,k,left,out,h=>by
   rw [pickOrder.go]
   have hlt:nx k%left.length<left.length:=ydo _ (by omega)
   rw [ybu hlt]
   dsimp only
   refine (qlm nx fuel (k+1) _ _ (by rw [ydp hlt];omega)).trans ?_
   rw [ycp,ycq]
   refine List.Perm.append_left _ ?_
   exact qdJ left _ hlt
def qe3 {α:Type} (nx:Nat->Nat) (xs:Array α):(pickOrder nx xs).toList.Perm xs.toList:=by
 have:=qlm nx xs.size 0 xs.toList #[] (by simp)
 simpa [pickOrder] using this
section
variable {prog:Program} {w:World} {A:Around} {E:Value->Shared->Prop} {s:Shared}
def qlt {src:Source} {n:Nat} {Q:Nat->Shared->Prop} (hn:n≠0) (h:∀i d,i<n->Q i { s with drawn:=d }):wpAny (model prog w) A (choose src n) Q E s :=
 fun Γ p _=>⟨hn,h _ _ (ydo _ (Nat.pos_of_ne_zero hn))⟩
def qku:∀(n:Nat) (xs:List Nat) (s:Shared) (Q:List Nat->Shared->Prop),xs.length=n->(∀ys d,ys.Perm xs->Q ys { s with drawn:=d })->wpAny (model prog w) A (drawOrder n xs) Q E s
 | 0,xs,s,Q,h,q=>by
   rw [ydm.mp h] at q ⊢
   exact wpAny_pure (q [] s.drawn (List.Perm.refl _))
 | n+1,[],s,Q,h,q=>by cases h
 | n+1,x::r,s,Q,h,q=>by
   refine wpAny_bind (m:=choose .order (x::r).length) (qlt (by simp) fun i d hi=>?_)
   rw [ybu hi]
   dsimp only
   refine wpAny_bind (qku n ((x::r).eraseIdx i) _ _ (by rw [ydp hi];simp at h ⊢;exact h) fun ys d' hp=>?_)
   exact wpAny_pure (q _ d' ((List.Perm.cons _ hp).trans (qdJ _ _ hi)))
def qdB {Q:Bool->Shared->Prop} (h:Q (w.params.followText "set-order") s):wpAny (model prog w) A setsByText Q E s:=by
 unfold setsByText
 exact wpAny_bind (wpAny_askSetting (wpAny_pure h))
end
end STb
namespace STb
open PySem PySem.SetTable PyProof.Rows
abbrev qin (first:Value) (i:Nat) (S:Addr) (n ep:Nat):Obj:={ cls := .type "set_iterator",data := .fields #[first,.int i 0,.ref S,.int n 0,.int ep 0] }
abbrev qeq (es:Array (Int×Value)) (ep:Nat) (t:SetTable):Obj:={ cls := .type "set",dict:=none,data := .set es ep t }
section
variable {prog:Program} {w:World} {A:Around} {E:Value->Shared->Prop} {s:Shared} {I S:Addr} {es:Array (Int×Value)} {ep:Nat} {t:SetTable}
def qch {Q:Array (Int×Value)->Shared->Prop} (ho:s.heap.get? S=some (qeq es ep t)) (hf:t.fits es.size=true) (h:Q es s):wpAny (model prog w) A (setEntries S) Q E s:=by
 unfold setEntries
 exact wpAny_bind (wpAny_setState_of ho rfl hf (wpAny_pure h))
end
end STb
namespace STb
open PySem PySem.SetTable PyProof.Rows
section
variable {prog:Program} {w:World} {A:Around} {E:Value->Shared->Prop} {s:Shared} {I S:Addr} {es:Array (Int×Value)} {ep:Nat} {t:SetTable}
def qjO {α:Type} {Q:α->Shared->Prop} {E':Value->Shared->Prop} (hh:A.handled=none)
   (h:∀h' e,(∀b o,s.heap.get? b=some o->h'.get? b=some o)->Shared.TypeIs { s with heap:=h' } (.ref e) "StopIteration" -> E' (.ref e) { s with heap:=h' }) :
   wpAny (model prog w) A (do raiseNew (<-newExc (.type "StopIteration") []):Sem α) Q E' s:=by
 refine wpAny_bind ?_
 simp only [newExc,newTuple]
 refine wpAny_bind (wpAny_newObj_type ?_ (by size_fits))
 refine wpAny_bind (m:=firstArgMember _ _) (wpAny_of_eq (a:=Value.none) (by first | rfl | (simp only [firstArgMember];rfl)) ?_)
 refine wpAny_newObj_type ?_ (by size_fits)
 simp only [raiseNew]
 refine wpAny_bind (wpAny_handled ?_)
 rw [hh]
 refine wpAny_bind (wpAny_pure (wpAny_throw ?_))
 exact h _ _ (fun b o e=>yde _ (yde _ e)) ⟨_,ydd _ rfl,rfl⟩
def qgZ {slot:Nat} {i:Nat} {Q:Option Value->Shared->Prop} (hh:A.handled=none) (hI:s.heap.get? I=some (qin (.int slot 0) i S es.size ep)) (hS:s.heap.get? S=some (qeq es ep t)) (hf:t.fits es.size=true)
   (hn:∀(A':Around) (E':Value->Shared->Prop) (Q':Option (Value×Nat)->Shared->Prop),Q' none s->wpAny (model prog w) A' (setNext S slot i ep) Q' E' s)
   (h:∀h',(∀b o,b≠I->s.heap.get? b=some o->h'.get? b=some o)->Q none { s with heap:=h' }):wpAny (model prog w) A (pyNext (.ref I)) Q E s:=by
 have ty:s.TypeIs (.ref I) "set_iterator" := ⟨_,hI,rfl⟩
 unfold pyNext
 refine wpAny_bind (wpAny_attempt (wpAny_callSpecial?_slot (name:=Str.ofString "__next__") ty qbF (wpAny_call_entry qbF ty qer ?_ (qgc _))))
 unfold Builtin.«set_iterator.__next__»
 refine wpAny_bind (m:=slotArgs "__next__" 0 ⟨[.ref I],[]⟩) (wpAny_pure (wpAny_bind (wpAny_fieldsOf hI rfl ?_)))
 refine wpAny_bind (m:=setEntries S) (qch hS hf ?_)
 rw [if_neg (by simp)]
 refine wpAny_bind (m:=setNext S (slot:Int).toNat (i:Int).toNat (ep:Int).toNat) (hn _ _ _ ?_)
 refine wpAny_bind (wpAny_setField hI rfl (by simp) ?_)
 refine qjO (by first | exact hh | simp [hh]) fun h' e kp tye=>?_
 refine wpAny_bind (wpAny_isInstance (T := "StopIteration") (b:=true) tye isSubtype_stop ?_)
 exact wpAny_pure (h _ fun b o hb q=>kp b o ((ydq _ _ (Ne.symm hb)).trans q))
def qm0 {T:Addr} {qb4:Array Value} {pn:Nat} {i p:Nat} {tk:Tok} {Q:Option Value->Shared->Prop} (hI:s.heap.get? I=some (qin (.ref T) i S es.size ep)) (hT:s.heap.get? T=some { cls := .type "tuple",data := .seq qb4 pn })
   (hS:s.heap.get? S=some (qeq es ep t)) (hf:t.fits es.size=true) (hp:qb4[i]?=some (.int p tk)) {x:Int×Value} (hx:es[p]?=some x)
   (h:∀h',h'.get? I=some (qin (.ref T) (i+1) S es.size ep)->Heap.SameBut I s.heap h'->Q (some x.2) { s with heap:=h' }):wpAny (model prog w) A (pyNext (.ref I)) Q E s:=by
 have ty:s.TypeIs (.ref I) "set_iterator" := ⟨_,hI,rfl⟩
 unfold pyNext
 refine wpAny_bind (wpAny_attempt (wpAny_callSpecial?_slot (name:=Str.ofString "__next__") ty qbF (wpAny_call_entry qbF ty qer ?_ (qgc _))))
 unfold Builtin.«set_iterator.__next__»
 refine wpAny_bind (m:=slotArgs "__next__" 0 ⟨[.ref I],[]⟩) (wpAny_pure (wpAny_bind (wpAny_fieldsOf hI rfl ?_)))
 refine wpAny_bind (m:=setEntries S) (qch hS hf ?_)
 rw [if_neg (by simp)]
 refine wpAny_bind (m:=seqItems? (.ref T)) (wpAny_seqItems hT rfl ?_)
 dsimp only
 rw [show qb4[(i:Int).toNat]?=some (.int p tk) from hp]
 dsimp only
 refine wpAny_bind (m:=setNextDrawn S (p:Int).toNat (ep:Int).toNat) ?_
 unfold setNextDrawn
 refine wpAny_bind (wpAny_setState_of hS rfl hf ?_)
 dsimp only
 rw [if_neg (by simp),show es[(p:Int).toNat]?=some x from hx]
 refine wpAny_pure (wpAny_bind (wpAny_setField hI rfl (by simp) ?_))
 have g1:=yda (Obj.mapFields (·.setIfInBounds 1 (rawInt ((i:Int)+1)))) hI rfl
 exact wpAny_pure ⟨_,rfl,wpAny_pure (h _ g1 (Heap.SameBut.update ..))⟩
def qhw {T:Addr} {qb4:Array Value} {pn:Nat} {i:Nat} {Q:Option Value->Shared->Prop} (hh:A.handled=none) (hI:s.heap.get? I=some (qin (.ref T) i S es.size ep)) (hT:s.heap.get? T=some { cls := .type "tuple",data := .seq qb4 pn })
   (hS:s.heap.get? S=some (qeq es ep t)) (hf:t.fits es.size=true) (hp:qb4[i]?=none)
   (h:∀h',(∀b o,b≠I->s.heap.get? b=some o->h'.get? b=some o)->Q none { s with heap:=h' }):wpAny (model prog w) A (pyNext (.ref I)) Q E s:=by
 have ty:s.TypeIs (.ref I) "set_iterator" := ⟨_,hI,rfl⟩
 unfold pyNext
 refine wpAny_bind (wpAny_attempt (wpAny_callSpecial?_slot (name:=Str.ofString "__next__") ty qbF (wpAny_call_entry qbF ty qer ?_ (qgc _))))
 unfold Builtin.«set_iterator.__next__»
 refine wpAny_bind (m:=slotArgs "__next__" 0 ⟨[.ref I],[]⟩) (wpAny_pure (wpAny_bind (wpAny_fieldsOf hI rfl ?_)))
 refine wpAny_bind (m:=setEntries S) (qch hS hf ?_)
 rw [if_neg (by simp)]
 refine wpAny_bind (m:=seqItems? (.ref T)) (wpAny_seqItems hT rfl ?_)
 dsimp only
 rw [show qb4[(i:Int).toNat]?=none from hp]
 dsimp only
 refine wpAny_bind (wpAny_setField hI rfl (by simp) ?_)
 have g1:=yda (Obj.mapFields (·.setIfInBounds 0 (rawInt 0))) hI rfl
 refine wpAny_bind (wpAny_setField g1 rfl (by simp [Obj.mapFields]) ?_)
 refine qjO (by first | exact hh | simp [hh]) fun h' e kp tye=>?_
 refine wpAny_bind (wpAny_isInstance (T := "StopIteration") (b:=true) tye isSubtype_stop ?_)
 exact wpAny_pure (h _ fun b o hb q=>kp b o ((ydq _ _ (Ne.symm hb)).trans ((ydq _ _ (Ne.symm hb)).trans q)))
def qeb {slot i:Nat} {Q:Option (Value×Nat)->Shared->Prop} (hS:s.heap.get? S=some (qeq es ep t)) (hf:t.fits es.size=true) (bt:w.params.followText "set-order" = true)
   (h:Q (((pickOrder (w.params.setOrder S ep) es)[i]?).map fun e=>(e.2,slot)) s):wpAny (model prog w) A (setNext S slot i ep) Q E s:=by
 unfold setNext
 refine wpAny_bind (wpAny_setState_of hS rfl hf (wpAny_bind (qdB ?_)))
 rw [bt,if_pos rfl,if_neg (by simp)]
 refine wpAny_bind ?_
 unfold setWalk
 refine wpAny_bind (wpAny_setState_of hS rfl hf (wpAny_bind (qdB ?_)))
 rw [bt,if_pos rfl]
 exact wpAny_bind (wpAny_askSetting (wpAny_pure (wpAny_pure h)))
def qdz {slot i:Nat} {Q:Option (Value×Nat)->Shared->Prop} (hS:s.heap.get? S=some (qeq es ep t)) (hf:t.fits es.size=true) (bt:w.params.followText "set-order" = false) (ld:t.led=true) (dr:(!t.plain&&decide (es.size>1))=false)
   (h:Q (match es[SetTable.below t.place slot]?,t.place[SetTable.below t.place slot]? with | some (_,x),some j=>some (x,j+1) | _,_=>none) s):wpAny (model prog w) A (setNext S slot i ep) Q E s:=by
 unfold setNext
 refine wpAny_bind (wpAny_setState_of hS rfl hf (wpAny_bind (qdB ?_)))
 rw [bt,if_neg (by simp)]
 dsimp only
 split
 . rename_i z
   exfalso
   have z':(!t.plain&&decide (es.size>1))=true:=z
   rw [dr] at z'
   cases z'
 . show wpAny (model prog w) A ((if (!t.led&&!es.isEmpty)=true then unsupported "set:maker-not-led" else pure ()) >>= fun _=>pure _) Q E s
   rw [ld,if_neg (by simp)]
   exact wpAny_bind (wpAny_pure (wpAny_pure h))
end
end STb
namespace STb
open PySem PySem.SetTable PyProof.Rows
section
variable {prog:Program} {w:World} {A:Around} {E:Value->Shared->Prop} {s:Shared} {I S:Addr} {es:Array (Int×Value)} {ep:Nat} {t:SetTable}
def qlQ {wr:List Addr} {h':Heap} (k:∀b o,b∉wr->s.heap.get? b=some o->h'.get? b=some o):Moved wr Eq s { s with heap:=h' }:=⟨k,rfl,rfl,rfl,yax _⟩
def qkg {first:Value} {i n:Nat} {Q:Value->Shared->Prop} (hI:s.heap.get? I=some (qin first i S n ep)) (h:Q (.ref I) s):wpAny (model prog w) A (pyIter (.ref I)) Q E s:=by
 have ty:s.TypeIs (.ref I) "set_iterator" := ⟨_,hI,rfl⟩
 have sl:Slot "set_iterator" "__iter__" "set_iterator.__iter__" :=
   Slot.of (owner := "set_iterator") (n := "__iter__") (by (rw [typeLookup_type,builtinLookup_eq_fast]);kernel_rfl) (by decide +kernel) (by decide +kernel) (by decide +kernel) (by first | (exact Or.inl (by decide +kernel)) | (exact Or.inr (by decide +kernel))) (by (rw [isSubtype_type]);kernel_rfl)
 have en:entryFor table "set_iterator.__iter__" = some Builtin.«dict_keyiterator.__iter__»:=entryFor_alias (id' := "dict_keyiterator.__iter__") (by kernel_rfl) (by decide +kernel) (by decide +kernel) (by kernel_rfl)
 refine wpAny_pyIter_slot ty sl (wpAny_call_entry sl ty en ?_ (by unfold argsOk;kernel_rfl))
 unfold Builtin.«dict_keyiterator.__iter__»
 first
   | exact wpAny_bind (wpAny_pure (wpAny_pure ⟨_,rfl, "set_iterator",_,ty,qbF.lookup,h⟩))
   | exact wpAny_pure ⟨_,rfl, "set_iterator",_,ty,qbF.lookup,h⟩
def qix (hh:A.handled=none) (hIS:I≠S) (hf:t.fits es.size=true) (out:List Value) (ho:out.length=es.size) (ok:Nat->Nat->Prop)
   (hn:∀(s:Shared) (A':Around) (E':Value->Shared->Prop) (Q':Option (Value×Nat)->Shared->Prop) (i slot:Nat) (x:Value),s.heap.get? S=some (qeq es ep t)->ok i slot->out[i]?=some x ->
     ∃nx,ok (i+1) nx/\(Q' (some (x,nx)) s->wpAny (model prog w) A' (setNext S slot i ep) Q' E' s))
   (he:∀(s:Shared) (A':Around) (E':Value->Shared->Prop) (Q':Option (Value×Nat)->Shared->Prop) (slot:Nat),s.heap.get? S=some (qeq es ep t)->ok es.size slot->Q' none s->wpAny (model prog w) A' (setNext S slot es.size ep) Q' E' s) :
   WalksS prog w A I [I,S] [I] Eq es.size (fun i v=>out[i]?=some v) (fun i s=>(∃slot:Nat,s.heap.get? I=some (qin (.int (slot:Int) 0) i S es.size ep)/\ok i slot)/\s.heap.get? S=some (qeq es ep t)) where
 sub:=fun b hb=>by simp at hb;simp [hb]
 grefl:=fun _=>rfl
 gtrans:=fun _ _ _ h1 h2=>h1.trans h2
 frame:=fun i s h' tk st _ k=>by
   obtain ⟨⟨slot,e,o⟩,e2⟩:=st
   exact ⟨⟨slot,k I (by simp) _ e,o⟩,k S (by simp) _ e2⟩
 item:=fun i s Q E hi st q=>by
   obtain ⟨⟨slot,e,o⟩,e2⟩:=st
   have hx:out[i]?=some out[i]:=ybu (by omega)
   obtain ⟨nx,o',_⟩:=hn s A E (fun _ _=>True) i slot _ e2 o hx
   have hn':∀(A':Around) (E':Value->Shared->Prop) (Q':Option (Value×Nat)->Shared->Prop),∃nx,ok (i+1) nx/\(Q' (some (out[i],nx)) s->wpAny (model prog w) A' (setNext S slot i ep) Q' E' s):=fun A' E' Q'=>hn s A' E' Q' i slot _ e2 o hx
   unfold pyNext
   have ty:s.TypeIs (.ref I) "set_iterator" := ⟨_,e,rfl⟩
   refine wpAny_bind (wpAny_attempt (wpAny_callSpecial?_slot (name:=Str.ofString "__next__") ty qbF (wpAny_call_entry qbF ty qer ?_ (qgc _))))
   unfold Builtin.«set_iterator.__next__»
   refine wpAny_bind (m:=slotArgs "__next__" 0 ⟨[.ref I],[]⟩) (wpAny_pure (wpAny_bind (wpAny_fieldsOf e rfl ?_)))
   refine wpAny_bind (m:=setEntries S) (qch e2 hf ?_)
   rw [if_neg (by simp)]
   refine wpAny_bind (m:=setNext S (slot:Int).toNat (i:Int).toNat (ep:Int).toNat) ?_
   obtain ⟨nx,o',go⟩:=hn' _ _ _
   refine go ?_
   refine wpAny_bind (wpAny_setField e rfl (by simp) ?_)
   have g1:=yda (Obj.mapFields (·.setIfInBounds 0 (rawInt nx))) e rfl
   refine wpAny_bind (wpAny_setField g1 rfl (by simp [Obj.mapFields]) ?_)
   have g2:=yda (Obj.mapFields (·.setIfInBounds 1 (rawInt ((i:Int)+1)))) g1 rfl
   have kp:∀b o,b≠I->s.heap.get? b=some o->((s.heap.update I (Obj.mapFields (·.setIfInBounds 0 (rawInt nx)))).update I (Obj.mapFields (·.setIfInBounds 1 (rawInt ((i:Int)+1))))).get? b=some o:=fun b o hb z =>
     (ydq _ _ (Ne.symm hb)).trans ((ydq _ _ (Ne.symm hb)).trans z)
   exact wpAny_pure ⟨_,rfl,wpAny_pure (q _ _ hx ⟨⟨nx,g2,o'⟩,kp S _ (Ne.symm hIS) e2⟩ (qlQ fun b o hb z=>kp b o (fun y=>hb (by simp [y])) z))⟩
 done:=fun s Q E st q=>by
   obtain ⟨⟨slot,e,o⟩,e2⟩:=st
   exact qgZ hh e e2 hf (fun A' E' Q' q'=>he s A' E' Q' slot e2 o q') fun h' kp=>q _ (qlQ fun b o hb z=>kp b o (fun y=>hb (by simp [y])) z)
 self:=fun i s Q E st q=>by
   obtain ⟨⟨slot,e,o⟩,e2⟩:=st
   exact qkg e q
def qmv {T:Addr} {qb4:List Nat} {pn:Nat} (hh:A.handled=none) (hIS:I≠S) (hIT:I≠T) (hf:t.fits es.size=true) (out:List Value) (hl:qb4.length=es.size) (ho:∀(i p:Nat),qb4[i]?=some p->∃x,es[p]?=some x/\out[i]?=some x.2) :
   WalksS prog w A I [I,S,T] [I] Eq es.size (fun i v=>out[i]?=some v) (fun i s=>s.heap.get? I=some (qin (.ref T) i S es.size ep)/\s.heap.get? S=some (qeq es ep t)/\s.heap.get? T=some { cls := .type "tuple",data := .seq (qb4.map fun (p:Nat)=>rawInt p).toArray pn }) where
 sub:=fun b hb=>by simp at hb;simp [hb]
 grefl:=fun _=>rfl
 gtrans:=fun _ _ _ h1 h2=>h1.trans h2
 frame:=fun i s h' tk st _ k=>by
   obtain ⟨e,e2,e3⟩:=st
   exact ⟨k I (by simp) _ e,k S (by simp) _ e2,k T (by simp) _ e3⟩
 item:=fun i s Q E hi st q=>by
   obtain ⟨e,e2,e3⟩:=st
   have hp:qb4[i]?=some qb4[i]:=ybu (by omega)
   obtain ⟨x,hx,hy⟩:=ho i _ hp
   refine qm0 (p:=qb4[i]) (tk:=0) e e3 e2 hf (by rw [List.getElem?_toArray,ydr,hp];rfl) hx fun h' g sb=>?_
   exact q _ _ hy ⟨g,sb.extBut _ _ (Ne.symm hIS) e2,sb.extBut _ _ (Ne.symm hIT) e3⟩ (qlQ fun b o hb z=>sb.extBut b o (fun y=>hb (by simp [y])) z)
 done:=fun s Q E st q=>by
   obtain ⟨e,e2,e3⟩:=st
   exact qhw hh e e3 e2 hf (by simp [hl]) fun h' kp=>q _ (qlQ fun b o hb z=>kp b o (fun y=>hb (by simp [y])) z)
 self:=fun i s Q E st q=>qkg st.1 q
end
end STb
namespace STb
open PySem PySem.SetTable PyProof.Rows
section
variable {prog:Program} {w:World} {A:Around} {E:Value->Shared->Prop} {s:Shared} {I S:Addr} {es:Array (Int×Value)} {ep:Nat} {t:SetTable}
def ql2 {Q:Bool->Shared->Prop} (hS:s.heap.get? S=some (qeq es ep t)) (hf:t.fits es.size=true) (h:Q (!w.params.followText "set-order" && (!t.plain&&decide (es.size>1))) s):wpAny (model prog w) A (setDrawn S) Q E s:=by
 unfold setDrawn
 exact wpAny_bind (wpAny_setState_of hS rfl hf (wpAny_bind (qdB (wpAny_pure h))))
def qhp:Slot "set" "__iter__" "set.__iter__" := PySem.F.slot_set_iter
def qo8 {ns:List Int} {Q:Value->Shared->Prop} (hh:A.handled=none) (r:RS prog w s.heap S ns)
   (h:∀(I:Addr) (fp:List Addr) (n:Nat) (out:List Value) (ms:List Int) (St:Nat->Shared->Prop) (s':Shared),(∀A':Around,A'.handled=none->WalksS prog w A' I fp [I] Eq n (fun i v=>out[i]?=some v) St)->St 0 s'->I∈fp->(∀b∈fp,b<s'.heap.objs.size)->(∀b∈fp,b=S\/s.heap.objs.size<=b)->s.heap.objs.size<=I ->
     IntsAre out ms->ms.Perm ns->out.length=n->(∀b o,s.heap.get? b=some o->s'.heap.get? b=some o)->s'.gens=s.gens->s'.os=s.os->s.toks<=s'.toks->Q (.ref I) s') :
   wpAny (model prog w) A (pyIter (.ref S)) Q E s:=by
 obtain ⟨es,ep,t,hS,el,pm,bd,ft,rs,ld,nd⟩:=r
 have ty:s.TypeIs (.ref S) "set" := ⟨_,hS,rfl⟩
 have intsOf:∀l:List (Int×Value),(∀e∈l,∃k,kI e.2=some k)->∃ms,IntsAre (l.map (·.2)) ms/\l.map (fun e=>kI e.2)=ms.map some:=fun l=>by
   induction l with
   | nil=>intro _;exact ⟨[],.nil,rfl⟩
   | cons e l ih =>
     intro q
     obtain ⟨ms,a,b⟩:=ih fun x hx=>q x (ybe _ hx)
     obtain ⟨k,hk⟩:=q e ybb
     obtain ⟨hsh,v⟩:=e
     cases v<;>first
       | (rename_i m tk;cases hk;exact ⟨_::ms,.cons _ _ a,by rw [ycw,ycw,b];rfl⟩)
       | cases hk
 have allk:∀e∈es.toList,∃k,kI e.2=some k:=fun e he=>by
   obtain ⟨⟨k,q,_⟩,_⟩:=el e he
   exact ⟨k,qn1.mp q⟩
 have perm:∀l:List (Int×Value),l.Perm es.toList->∃ms,IntsAre (l.map (·.2)) ms/\ms.Perm ns:=fun l hp=>by
   obtain ⟨ms,a,b⟩:=intsOf l fun e he=>allk e (hp.mem_iff.mp he)
   refine ⟨ms,a,?_⟩
   have q:(ms.map some).Perm (ns.map some):=by
     rw [<-b]
     exact (hp.map _).trans pm
   have q':=q.map (fun o:Option Int=>o.getD 0)
   simpa [yds,Function.comp_def] using q'
 have plc:t.place.size=es.size:=by
   simp only [SetTable.fits,yab,beq_iff_eq] at ft
   exact ft.1
 refine wpAny_pyIter_slot ty qhp (wpAny_call_entry qhp ty qjx ?_ (PySem.F.args_set_iter_1 _))
 unfold Builtin.«frozenset.__iter__»
 refine wpAny_bind (m:=Builtin.Frozenset.slot0 "__iter__" ⟨[.ref S],[]⟩) (wpAny_bind (wpAny_pure (wpAny_pure ?_)))
 refine wpAny_bind (m:=Builtin.Frozenset.sizeOf S) (wpAny_bind (qch hS ft (wpAny_pure ?_)))
 refine wpAny_bind (m:=setDrawn S) (ql2 hS ft ?_)
 have hlt:S<s.heap.objs.size:=ydf hS
 cases bt:w.params.followText "set-order" with
 | true =>
   rw [if_neg (by simp)]
   refine wpAny_bind (wpAny_pure (wpAny_bind (wpAny_setEpoch_of hS rfl ft (wpAny_bind (wpAny_newObj_type (wpAny_pure ⟨_,rfl, "set_iterator",_,⟨_,ydd _ rfl,rfl⟩,qbF.lookup,?_⟩))))))
   obtain ⟨ms,a,b⟩:=perm _ (qe3 (w.params.setOrder S ep) es)
   have lo:((pickOrder (w.params.setOrder S ep) es).toList.map (·.2)).length=es.size:=by rw [ybz,(qe3 _ _).length_eq,ycn]
   refine h s.heap.objs.size [s.heap.objs.size,S] es.size _ ms _ _ (fun A' hA'=>qix (t:=t) (ep:=ep) hA' (ydk hlt) ft _ lo (fun _ _=>True) (fun s A' E' Q' i slot x e _ hx=>⟨slot,trivial,fun q=>qeb e ft bt ?_⟩) fun s A' E' Q' slot e _ q=>qeb e ft bt ?_)
     ⟨⟨0,ydd _ rfl,trivial⟩,yde _ hS⟩ (by simp) (fun b hb=>?_) (fun b hb=>(ybd.mp hb).elim (fun z => .inr (ydt z.symm)) fun z => .inl (ydu.mp z)) (yax _) a b lo (fun b o e=>yde _ e) rfl rfl (yax _)
   . rw [ydr,ycc] at hx
     cases z:(pickOrder (w.params.setOrder S ep) es)[i]? with
     | none=>rw [z] at hx;cases hx
     | some y=>rw [z] at hx;cases hx;exact q
   . rw [yci (by rw [<-ycn,(qe3 _ _).length_eq,ycn];exact yax _)]
     exact q
   . rw [ydg]
     rcases ybd.mp hb with z | z
     . rw [z];exact yck _
     . rw [ydu.mp z];exact ydi hlt
 | false =>
   rw [bt] at ld
   cases dr:(!t.plain&&decide (es.size>1)) with
   | false =>
     rw [if_neg (by simp)]
     refine wpAny_bind (wpAny_pure (wpAny_bind (wpAny_setEpoch_of hS rfl ft (wpAny_bind (wpAny_newObj_type (wpAny_pure ⟨_,rfl, "set_iterator",_,⟨_,ydd _ rfl,rfl⟩,qbF.lookup,?_⟩))))))
     obtain ⟨ms,a,b⟩:=perm _ (List.Perm.refl _)
     have lo:(es.toList.map (·.2)).length=es.size:=by rw [ybz,ycn]
     refine h s.heap.objs.size [s.heap.objs.size,S] es.size _ ms _ _ (fun A' hA'=>qix (t:=t) (ep:=ep) hA' (ydk hlt) ft _ lo (fun i slot=>SetTable.below t.place slot=i) (fun s A' E' Q' i slot x e o hx=>?_) fun s A' E' Q' slot e o q=>qdz e ft bt ld dr ?_)
       ⟨⟨0,ydd _ rfl,qjg rs⟩,yde _ hS⟩ (by simp) (fun b hb=>?_) (fun b hb=>(ybd.mp hb).elim (fun z => .inr (ydt z.symm)) fun z => .inl (ydu.mp z)) (yax _) a b lo (fun b o e=>yde _ e) rfl rfl (yax _)
     . rw [ydr,ycc] at hx
       have hi:i<es.size:=by
         rcases yag i es.size with z | z
         . exact z
         . rw [yci z] at hx;cases hx
       have hp:t.place[i]?=some t.place[i]:=by simp [plc,hi]
       refine ⟨t.place[i]+1,qjd rs hp,fun q=>qdz e ft bt ld dr ?_⟩
       rw [o,hp]
       cases z:es[i]? with
       | none=>rw [z] at hx;cases hx
       | some y=>rw [z] at hx;cases hx;exact q
     . rw [o,yci (yax _)]
       exact q
     . rw [ydg]
       rcases ybd.mp hb with z | z
       . rw [z];exact yck _
       . rw [ydu.mp z];exact ydi hlt
   | true =>
     rw [if_pos (by simp)]
     refine wpAny_bind (qku es.size (List.range es.size) s _ (by simp) fun ys d hp=>wpAny_bind ?_)
     have ly:ys.length=es.size:=by rw [hp.length_eq];simp
     refine wpAny_newTuple ?_ (by rw [ybz,ly];exact fits_of_scanBound bd)
     refine wpAny_bind (wpAny_setEpoch_of (o:=qeq es ep t) (yde _ hS) rfl ft (wpAny_bind (wpAny_newObj_type (wpAny_pure ⟨_,rfl, "set_iterator",_,⟨_,ydd _ rfl,rfl⟩,qbF.lookup,?_⟩))))
     have hy:∀p∈ys,p<es.size:=fun p hm=>ybh.mp (hp.mem_iff.mp hm)
     have pl:(ys.map fun p=>es.getD p (0,.none)).Perm es.toList:=by
       have e:es.toList=(List.range es.size).map fun p=>es.getD p (0,.none):=by
         refine ydv (by simp) fun i h1 h2=>?_
         have:i<es.size:=by simpa using h1
         simp [Array.getD,this]
       rw [e]
       exact hp.map _
     obtain ⟨ms,a,b⟩:=perm _ pl
     have n1:(s.heap.push { cls:=Value.type "tuple",data:=Data.seq (ys.map fun (p:Nat)=>rawInt p).toArray }).objs.size=s.heap.objs.size+1:=ydg ..
     refine h _ [_,S,s.heap.objs.size] es.size _ ms _ _ (fun A' hA'=>qmv (T:=s.heap.objs.size) (pn:=0) (t:=t) (ep:=ep) hA' (by rw [n1];exact ydk (ydi hlt)) (by rw [n1];exact ydk (yck _)) ft _ ly fun i p hip=>?_)
       ⟨ydd _ rfl,yde _ (yde _ hS),yde _ (ydd _ rfl)⟩ (by simp) (fun b hb=>?_) (fun b hb=>?_) (by rw [n1];exact ydc _) a b (by rw [ybz,ybz,ly]) (fun b o e=>yde _ (yde _ e)) rfl rfl (yax _)
     . have hm:=hy p (ybv hip)
       refine ⟨es[p],by simp [hm],?_⟩
       rw [ydr,ydr,hip]
       simp [Array.getD,hm]
     . rw [ydg,n1]
       simp only [ybd,ydj,or_false] at hb
       rcases hb with z | z | z
       . rw [z]
         exact ybi (ydt n1) (yck _)
       . rw [z];exact ydi (ydi hlt)
       . rw [z];exact ydi (yck _)
     . simp only [ybd,ydj,or_false] at hb
       rcases hb with z | z | z
       . right
         rw [z,n1]
         exact ydc _
       . exact .inl z
       . exact .inr (ydt z.symm)
end
end STb
namespace STb
open PySem PySem.SetTable PyProof.Rows
section
variable {prog:Program} {w:World} {A:Around} {E:Value->Shared->Prop} {s:Shared} {I S:Addr}
def qgF {out:List Value} {n:Nat} (ho:out.length=n) {acc:Array Value} (h:ItemsOf (fun i v=>out[i]?=some v) acc n):acc.toList=out:=by
 refine List.ext_getElem? fun i=>?_
 rw [ycc]
 rcases yag i n with z | z
 . have hs:i<acc.size:=by rw [h.1];exact z
   have:=h.2 i acc[i] (by simp [hs])
   rw [this]
   simp [hs]
 . rw [yci (by rw [h.1];exact z),ydw (by omega)]
def qiv {ns:List Int} {Q:List Value->Shared->Prop} (hh:A.handled=none) (r:RS prog w s.heap S ns)
   (h:∀(s':Shared) (vs:List Value) (ms:List Int),IntsAre vs ms->ms.Perm ns->(∀b o,s.heap.get? b=some o->s'.heap.get? b=some o)->s.heap.objs.size<s'.heap.objs.size->s'.gens=s.gens->s'.os=s.os->Q vs s') :
   wpAny (model prog w) A (collect (.ref S)) Q E s:=by
 have hlen:=r.len
 have hSlt:S<s.heap.objs.size:=by
   obtain ⟨es,ep,t,e,_⟩:=r
   exact ydf e
 unfold collect
 refine wpAny_bind (wpAny_runValue (codeAny_builtin F.entry_proto_collect ?_))
 rw [Around.under_plainId F.plain_proto_collect _]
 refine wpAny_bind (m:=newList []) (wpAny_newObj_type ?_)
 refine wpAny_pure ⟨plainId_quiet F.plain_list_iadd _,codeAny_builtin F.entry_list_iadd ?_⟩
 rw [Around.under_plainId F.plain_list_iadd _]
 have r1:RS prog w (s.heap.push { cls := .type "list",data := .seq ([]:List Value).toArray }) S ns:=r.keep fun o e=>yde _ e
 have ty1:Shared.TypeIs { s with heap:=s.heap.push { cls := .type "list",data := .seq ([]:List Value).toArray } } (.ref S) "set" := by
   obtain ⟨es,ep,t,e,_⟩:=r1
   exact ⟨_,e,rfl⟩
 show wpAny _ A.in1 (Builtin.List.listExtendWith (.ref s.heap.objs.size) (.ref S) (.ref s.heap.objs.size)) _ _ _
 unfold Builtin.List.listExtendWith
 refine wpAny_bind (wpAny_typeOf ty1 ?_)
 have d1:Builtin.List.listSameRef (.ref s.heap.objs.size) (.ref S)=false:=by
   simp only [Builtin.List.listSameRef,beq_eq_false_iff_ne,ne_eq]
   exact ydk hSlt
 have d2:(Value.type "set" == Value.type "list")=false:=by decide
 have d3:(Value.type "set" == Value.type "tuple")=false:=by decide
 simp only [d1,d2,d3,ydx,ydy,if_false]
 have hh1:A.in1.handled=none:=by simp [hh]
 refine wpAny_bind (qo8 hh1 r1 fun I fp n out ms St s2 W st0 hI hfp hfs hge hi hp ho kp eg eo htk=>?_)
 have ty2:s2.TypeIs (.ref S) "set" := by
   obtain ⟨es,ep,t,e,_⟩:=r1
   exact ⟨_,kp _ _ e,rfl⟩
 refine wpAny_bind (wpAny_holding ?_)
 unfold Builtin.List.listLengthHint
 refine wpAny_bind (wpAny_specialOf ty2 qhj ?_)
 refine wpAny_bind (m:=isInstance (.ref S) (.type "set")) (wpAny_isInstance ty2 qic ?_)
 simp only [Bool.not_true,ydy,if_false]
 refine wpAny_ite_split (fun _=>?_) (fun z=>absurd (by decide +kernel) z)
 refine wpAny_bind (wpAny_typeOf ty2 (wpAny_pure ?_))
 refine wpAny_ite_split (fun _=>?_) (fun z=>absurd (by decide +kernel) z)
 refine wpAny_bind (wpAny_rule ?_)
 have g0:(s.heap.push { cls := .type "list",data := .seq ([]:List Value).toArray }).get? s.heap.objs.size=some { cls := .type "list",data := .seq ([]:List Value).toArray }:=ydd _ rfl
 have g2:=kp _ _ g0
 have Iout:s.heap.objs.size<I:=by
   rw [ydg] at hge
   exact hge
 refine wpAny_bind (m:=Builtin.List.listTouch (.ref s.heap.objs.size)) ?_
 refine wpAny_bind (m:=updateSeq s.heap.objs.size (·.push .none)) (wpAny_updateSeq g2 rfl ?_)
 have g3:=yda (Obj.mapSeq (·.push Value.none)) g2 rfl
 refine wpAny_updateSeq g3 rfl ?_
 have g4:=yda (Obj.mapSeq (·.pop)) g3 rfl
 have oth:∀b o,b≠s.heap.objs.size->s2.heap.get? b=some o->((s2.heap.update s.heap.objs.size (Obj.mapSeq (·.push Value.none))).update s.heap.objs.size (Obj.mapSeq (·.pop))).get? b=some o :=
   fun b o hb e=>(ydq _ _ (Ne.symm hb)).trans ((ydq _ _ (Ne.symm hb)).trans e)
 have hSf:s.heap.objs.size∉fp:=fun z=>by
   rcases hfs _ z with y | y
   . exact absurd hSlt (by rw [<-y];exact ydz _)
   . rw [ydg] at y
     exact ydz _ y
 have W1:=W A.in1 (by simp [hh])
 have hn:n<=sizeLine:=by
   have e1:=hi.length
   have e2:=hp.length_eq
   have:=fits_of_scanBound hlen
   omega
 refine wpAny_pure ⟨plainId_quiet F.plain_extend_loop _,codeAny_extend_loopS W1 hn _ hSf _ n 0 _ _ _ rfl (ych _) (W1.frame 0 s2 _ s2.toks st0 (yax _) fun b hb o e=>oth b o (fun z=>hSf (z▸hb)) e) g4 (ItemsOf.nil _) fun s3 acc c mv gS hacc=>?_⟩
 refine wpAny_bind (wpAny_load gS (wpAny_pure ?_))
 rw [qgF ho hacc]
 refine h s3 out ms hi hp (fun b o e=>?_) (ydf gS) (mv.gens.symm.trans eg) (mv.os.trans eo)
 have hb:b≠s.heap.objs.size:=ydh (ydf e)
 have hbI:b≠I:=ydh (ybl (ydf e) Iout)
 exact mv.heap b o (by simp only [ybd,ydj,or_false,not_or];exact ⟨hb,hbI⟩) (oth b o hb (kp b o (yde _ e)))
end
end STb
namespace L2
open PySem PySem.Spec PyProof.Rows
abbrev Key:=Sum Int Str
def qjn:Key->Value->Bool
 | .inl k,v=>Value.isInt k v
 | .inr x,v=>Value.isStrOf x v
def qs1 (w:World):Key->Int
 | .inl k=>hashInt k
 | .inr x=>hashStr w x
def qaU:∀{k:Key} {v:Value},qjn k v=true->(∃i t,k=Sum.inl i/\v=Value.int i t)\/(∃x t,k=Sum.inr x/\v=Value.str x t)
 | .inl i,v,h=>by
   obtain ⟨t,e⟩:=Value.isInt_shape (k:=i) (v:=v) h
   exact .inl ⟨i,t,rfl,e⟩
 | .inr x,v,h=>by
   obtain ⟨t,e⟩:=Value.isStrOf_shape (x:=x) (v:=v) h
   exact .inr ⟨x,t,rfl,e⟩
def qjV (i:Int) (t:Tok):qjn (.inl i) (.int i t)=true:=by simp [qjn,Value.isInt]
def qj1 (x:Str) (t:Tok):qjn (.inr x) (.str x t)=true:=by simp [qjn,Value.isStrOf]
def qqK (a b:Int):decide ((Sum.inl a:Key)=Sum.inl b)=(a==b):=by
 by_cases e:a=b
 . subst e;simp
 . have h:¬(Sum.inl a:Key)=Sum.inl b:=fun q=>e (Sum.inl.inj q)
   rw [decide_eq_false h]
   exact (beq_eq_false_iff_ne.mpr e).symm
def qqW (a b:Str):decide ((Sum.inr a:Key)=Sum.inr b)=decide (a=b):=by
 by_cases e:a=b
 . subst e;simp
 . have h:¬(Sum.inr a:Key)=Sum.inr b:=fun q=>e (Sum.inr.inj q)
   rw [decide_eq_false h,decide_eq_false e]
def qqs (a:Int) (b:Str):decide ((Sum.inl a:Key)=Sum.inr b)=false:=decide_eq_false (fun q=>nomatch q)
def qq3 (a:Str) (b:Int):decide ((Sum.inr a:Key)=Sum.inl b)=false:=decide_eq_false (fun q=>nomatch q)
def qa1 (prog:Program) (w:World):PySem.KeyKind prog w Key where
 is:=qjn
 hash:=qs1 w
 inj:=fun v a b ha hb=>by
   rcases qaU ha with ⟨i,t,rfl,rfl⟩ | ⟨x,t,rfl,rfl⟩
   . rcases qaU hb with ⟨j,u,rfl,e⟩ | ⟨y,u,rfl,e⟩
     . injection e with e1 _;rw [e1]
     . exact nomatch e
   . rcases qaU hb with ⟨j,u,rfl,e⟩ | ⟨y,u,rfl,e⟩
     . exact nomatch e
     . injection e with e1 _;rw [e1]
 byValue:=fun k v h=>by
   rcases qaU h with ⟨i,t,rfl,rfl⟩ | ⟨x,t,rfl,rfl⟩<;>rfl
 pyHash:=fun hv h=>by
   rcases qaU hv with ⟨i,t,rfl,rfl⟩ | ⟨x,t,rfl,rfl⟩
   . exact wpAny_pyHash_int h
   . exact wpAny_pyHash_str h
 eqBool:=fun hu hv h=>by
   rcases qaU hu with ⟨i,t,rfl,rfl⟩ | ⟨x,t,rfl,rfl⟩
   . rcases qaU hv with ⟨j,u,rfl,rfl⟩ | ⟨y,u,rfl,rfl⟩
     . rw [qqK] at h;exact wpAny_eqBool_int h
     . rw [qqs] at h;exact SeqAt.EqAt.int_str i t y u _ _ _ _ h
   . rcases qaU hv with ⟨j,u,rfl,rfl⟩ | ⟨y,u,rfl,rfl⟩
     . rw [qq3] at h;exact SeqAt.EqAt.str_int x t j u _ _ _ _ h
     . rw [qqW] at h;exact wpAny_eqBool_str h
 «strs»:=fun k x t v h=>by
   rcases qaU h with ⟨i,u,rfl,e⟩ | ⟨y,u,rfl,e⟩
   . exact nomatch e
   . injection e with e1 _
     subst e1
     cases v<;>rfl
def qil (prog:Program) (w:World) (i:Int) (t:Tok):(qa1 prog w).is (.inl i) (.int i t)=true:=qjV i t
def qh7 (prog:Program) (w:World) (x:Str) (t:Tok):(qa1 prog w).is (.inr x) (.str x t)=true:=qj1 x t
end L2
namespace L2
open PySem PySem.Spec PyProof.Rows
inductive V where
 | non | bl (b:Bool) | int (i:Int) | str (x:Str) | byt (b:Array UInt8) | flt (b:UInt64) | ref (a:Addr) | ty (n:String)
 deriving DecidableEq
def qbg:V->Value->Prop
 | .non,u=>u=Value.none
 | .bl b,u=>u=Value.bool b
 | .int i,u=>∃t,u=Value.int i t
 | .str x,u=>∃t,u=Value.str x t
 | .byt b,u=>∃t,u=Value.bytes b t
 | .flt b,u=>∃t,u=Value.float b t
 | .ref a,u=>u=Value.ref a
 | .ty n,u=>u=Value.type n
abbrev qaV:List V->List Value->Prop:=Paired qbg
def qaV.length {xs:List V} {us:List Value} (r:qaV xs us):xs.length=us.length:=Paired.length r
def qaV.get:∀{xs:List V} {us:List Value} {i:Nat} {x:V},qaV xs us->xs[i]?=some x->∃u,us[i]?=some u/\qbg x u
 | _,_,_,_,.nil,e=>by simp at e
 | _,_,0,_,.cons r _,e=>by simp at e;subst e;exact ⟨_,rfl,r⟩
 | _,_,i+1,x,.cons _ t,e=>by
   obtain ⟨u,h1,h2⟩:=qaV.get (i:=i) (x:=x) t (by simpa using e)
   exact ⟨u,by simpa using h1,h2⟩
def qaV.set {x:V} {u:Value} (r:qbg x u):∀{xs:List V} {us:List Value} (i:Nat),qaV xs us->qaV (xs.set i x) (us.set i u)
 | _,_,_,.nil => .nil
 | _,_,0,.cons _ t => .cons r t
 | _,_,i+1,.cons q t => .cons q (qaV.set r i t)
def qaV.append:∀{xs ys:List V} {us ws:List Value},qaV xs us->qaV ys ws->qaV (xs++ys) (us++ws)
 | _,_,_,_,.nil,s=>s
 | _,_,_,_,.cons r t,s => .cons r (qaV.append t s)
def qaV.take:∀{xs:List V} {us:List Value} (n:Nat),qaV xs us->qaV (xs.take n) (us.take n)
 | _,_,0,_ => .nil
 | _,_,_+1,.nil => .nil
 | _,_,n+1,.cons r t => .cons r (qaV.take n t)
def qaV.drop:∀{xs:List V} {us:List Value} (n:Nat),qaV xs us->qaV (xs.drop n) (us.drop n)
 | _,_,0,r=>r
 | _,_,_+1,.nil => .nil
 | _,_,n+1,.cons _ t=>qaV.drop n t
def qhz:Option V->Option Value->Prop
 | some v,some u=>qbg v u
 | none,none=>True
 | _,_=>False
def KV {κ:Type}:List (κ×V)->List (κ×Value)->Prop:=Paired fun (p:κ×V) (q:κ×Value)=>p.1=q.1/\qbg p.2 q.2
def kV:Key->V
 | .inl i => .int i
 | .inr x => .str x
inductive HO where
 
 | lst (xs:List V)
 
 | tup (xs:List V)
 
 | dK (kvs:List (Key×V)) | dT (kvs:List (List Key×V))
 
 | set (S:Int->Bool) (n:Nat)
 
 | ins (C dx:Addr) (fs:List (Str×V))
 
 | own (x:Addr)
 
 | xd (fs:List (Str×V))
 
 | met (f x:Addr)
 
 | rng (lo hi:Int)
 
 | frz (o:Obj) (u:HO)
 
 | tbl (ps:Array Value)
 
 | ext (φ:Heap->Prop)
abbrev Hp:=Addr->Option HO
def upd (H:Hp) (a:Addr) (o:HO):Hp:=fun b=>if b=a then some o else H b
def qaj {H:Hp} {a:Addr} {o:HO}:upd H a o a=some o:=by unfold upd;rw [if_pos rfl]
def qap {H:Hp} {a b:Addr} {o:HO} (h:b≠a):upd H a o b=H b:=by unfold upd;rw [if_neg h]
def qk6 {H:Hp} {a:Addr} {o u:HO}:upd (upd H a o) a u=upd H a u:=by
 funext b;unfold upd;split<;>rfl
def qsn {H:Hp} {a b:Addr} {o u:HO} (h:H a=some o) (h':H b=some u) (d:o≠u):a≠b:=by
 intro e;subst e;rw [h] at h';exact d (Option.some.inj h')
def qaX {H:Hp} {a b:Addr} {o:HO} (h:H a=some o) (h':H b=none):a≠b:=by
 intro e;subst e;rw [h] at h';cases h'
section
variable (P:Program) (w:World)
def qbe (H:Hp) (h:Heap) (a:Addr):HO->Prop
 | .lst xs=>xs.length<=sizeLine/\∃(its:List Value) (n:Nat),qaV xs its/\h.get? a=some { cls := .type "list",data := .seq its.toArray n }
 | .tup xs=>xs.length<=sizeLine/\∃its:List Value,qaV xs its/\IsTup h a its.toArray
 | .dK kvs=>kvs.length<=sizeLine/\(a==sysModules)=false/\∃vs,KV kvs vs/\h.DictOf (qa1 P w) a vs
 | .dT kvs=>kvs.length<=sizeLine/\(a==sysModules)=false/\∃xs:List (List Key×Addr×Value),
     Paired (fun (p:List Key×V) (q:List Key×Addr×Value)=>p.1=q.1/\H q.2.1=some (.tup (p.1.map kV))/\qbg p.2 q.2.2) kvs xs /\
     ∃o es ep,h.get? a=some o/\o.ExactDict/\o.data = .dict es ep/\es.toList=xs.map (entryOfKey (tupleKind (qa1 P w)))/\(xs.map (·.1)).Nodup
 | .set S n=>h.SetOf (intKind P w) a S n
 | .ins C dx fs=>H dx=some (.own a)/\fs.length<=1000/\dx≠a/\h.get? a=some (PySem.W.instObj C dx) /\
     ∃mA,h.Ns1 dx mA/\(∀f,qhz (fs.lookup f) (mA f))/\PySem.Within mA (fs.map (·.1))
 | .own _=>∃o,h.get? a=some o
 | .xd fs=>∃mA,h.Ns1 a mA/\∀f,qhz (fs.lookup f) (mA f)
 | .rng lo hi=>∃t u v,h.get? a=some { cls := .type "range",data := .fields #[.int lo t,.int hi u,.int 1 v] }
 | .frz o u=>h.get? a=some o/\qbe H h a u
 | .tbl ps=>h.get? a=some { cls := .none,data := .fields ps }
 | .met f x=>h.get? a=some (PySem.W.methodObj (.ref f) (.ref x))
 | .ext φ=>φ h/\(∃o,h.get? a=some o)/\∀h1 h2:Heap,φ h1->(∀o,h1.get? a=some o->h2.get? a=some o)->φ h2
def HOk (H:Hp) (h:Heap):Prop:=∀a o,H a=some o->qbe P w H h a o
end
section
variable {P:Program} {w:World} {H H':Hp} {h h':Heap} {a:Addr} {o:HO}
def qbe.lt (x:qbe P w H h a o):a<h.objs.size:=by
 cases o with
 | lst xs=>obtain ⟨_,_,_,_,e⟩:=x;exact ydf e
 | tup xs=>obtain ⟨_,_,_,p⟩:=x;exact p.lt
 | dK kvs=>obtain ⟨_,_,_,_,o,_,_,e,_⟩:=x;exact ydf e
 | dT kvs=>obtain ⟨_,_,_,_,o,_,_,e,_⟩:=x;exact ydf e
 | set S n=>obtain ⟨o,_,_,_,e,_⟩:=x;exact ydf e
 | ins C dx fs=>obtain ⟨_,_,_,e,_⟩:=x;exact ydf e
 | own y=>obtain ⟨_,e⟩:=x;exact ydf e
 | xd fs=>obtain ⟨_,⟨_,_,_,e,_⟩,_⟩:=x;exact ydf e
 | rng lo hi=>obtain ⟨_,_,_,e⟩:=x;exact ydf e
 | frz ob u=>obtain ⟨e,_⟩:=x;exact ydf e
 | tbl ps=>exact ydf (show h.get? a=some _ from x)
 | met f y=>exact ydf (show h.get? a=some _ from x)
 | ext φ=>obtain ⟨_,⟨_,e⟩,_⟩:=x;exact ydf e
def Paired.mapP {α β:Type} {F G:α->β->Prop}:∀{l₁:List α} {l₂:List β},Paired F l₁ l₂->(∀a b,F a b->G a b)->Paired G l₁ l₂
 | _,_,.nil,_ => .nil
 | _,_,.cons r t,f => .cons (f _ _ r) (Paired.mapP t f)
def qbe.stay (x:qbe P w H h a o) (k:∀b u,(b=a\/H b=some (.own a))->h.get? b=some u->h'.get? b=some u)
   (ho:∀b,H b=some (.own a)->H' b=some (.own a)) (ht:∀b xs,H b=some (.tup xs)->H' b=some (.tup xs)):qbe P w H' h' a o:=by
 induction o with
 | lst xs=>obtain ⟨z,its,n,r,e⟩:=x;exact ⟨z,its,n,r,k _ _ (.inl rfl) e⟩
 | tup xs=>obtain ⟨z,its,r,ob,e,c⟩:=x;exact ⟨z,its,r,ob,k _ _ (.inl rfl) e,c⟩
 | dK kvs=>obtain ⟨z,y,vs,r,ob,es,ep,e,c⟩:=x;exact ⟨z,y,vs,r,ob,es,ep,k _ _ (.inl rfl) e,c⟩
 | dT kvs =>
   obtain ⟨z,y,xs,r,ob,es,ep,e,c⟩:=x
   exact ⟨z,y,xs,Paired.mapP r fun p q z=>⟨z.1,ht _ _ z.2.1,z.2.2⟩,ob,es,ep,k _ _ (.inl rfl) e,c⟩
 | set S n=>obtain ⟨ob,es,ep,t,e,c⟩:=x;exact ⟨ob,es,ep,t,k _ _ (.inl rfl) e,c⟩
 | ins C dx fs =>
   obtain ⟨d,z,ne,e,mA,⟨od,es,ep,e2,c⟩,r⟩:=x
   exact ⟨ho _ d,z,ne,k _ _ (.inl rfl) e,mA,⟨od,es,ep,k _ _ (.inr d) e2,c⟩,r⟩
 | own y=>obtain ⟨ob,e⟩:=x;exact ⟨ob,k _ _ (.inl rfl) e⟩
 | xd fs=>obtain ⟨mA,⟨od,es,ep,e,c⟩,r⟩:=x;exact ⟨mA,⟨od,es,ep,k _ _ (.inl rfl) e,c⟩,r⟩
 | rng lo hi=>obtain ⟨t,u,v,e⟩:=x;exact ⟨t,u,v,k _ _ (.inl rfl) e⟩
 | frz ob u ih=>obtain ⟨e,q⟩:=x;exact ⟨k _ _ (.inl rfl) e,ih q⟩
 | tbl ps =>
   have e:h.get? a=some { cls := .none,data := .fields ps }:=x
   show h'.get? a=some { cls := .none,data := .fields ps }
   exact k a _ (.inl rfl) e
 | met f y =>
   have e:h.get? a=some (PySem.W.methodObj (.ref f) (.ref y)):=x
   show h'.get? a=some (PySem.W.methodObj (.ref f) (.ref y))
   exact k a _ (.inl rfl) e
 | ext φ=>obtain ⟨p,⟨o,e⟩,st⟩:=x;exact ⟨st _ _ p fun o q=>k _ _ (.inl rfl) q,⟨o,k _ _ (.inl rfl) e⟩,st⟩
def HOk.lt (x:HOk P w H h) (e:H a=some o):a<h.objs.size:=(x a o e).lt
def HOk.fresh (x:HOk P w H h) (e:h.objs.size<=a):H a=none:=by
 cases q:H a with
 | none=>rfl
 | some u=>exact absurd (yae (x.lt q) e) (ydz _)
def HOk.kept (x:HOk P w H h) (k:∀b u,h.get? b=some u->h'.get? b=some u):HOk P w H h':=fun a o e =>
 (x a o e).stay (fun b u _ q=>k b u q) (fun _ q=>q) fun _ _ q=>q
def HOk.laid (x:HOk P w H h) (k:∀b u,h.get? b=some u->h'.get? b=some u) (hp:h.objs.size<=a) (new:qbe P w (upd H a o) h' a o):HOk P w (upd H a o) h':=fun b u e=>by
 have hn:=x.fresh hp
 by_cases hb:b=a
 . subst hb;rw [qaj] at e;cases e;exact new
 . rw [qap hb] at e
   exact (x b u e).stay (fun c v _ q=>k c v q) (fun c q=>by rw [qap (qaX q hn)];exact q) fun c xs q=>by rw [qap (qaX q hn)];exact q
end
def Rd (H:Hp) (a:Addr) (u:HO):Prop:=H a=some u\/∃o,H a=some (.frz o u)
def Rd.ok {P:Program} {w:World} {H:Hp} {h:Heap} {a:Addr} {u:HO} (r:Rd H a u) (x:HOk P w H h):qbe P w H h a u:=by
 rcases r with r | ⟨o,r⟩
 . exact x a u r
 . obtain ⟨_,q⟩:=x a _ r
   exact q
def Mut:Option HO->Prop
 | some (.lst _)=>True
 | some (.dK _)=>True
 | some (.dT _)=>True
 | some (.set _ _)=>True
 | some (.ins _ _ _)=>True
 | some (.ext _)=>True
 | _=>False
section
variable {P:Program} {w:World} {H:Hp} {h h':Heap} {x e:Addr} {o':HO}
def HOk.write (ok:HOk P w H h) (mu:Mut (H x)) (he:e=x\/H e=some (.own x)) (k:∀b u,b≠e->h.get? b=some u->h'.get? b=some u) (heo:∃u,h'.get? e=some u)
   (new:qbe P w (upd H x o') h' x o'):HOk P w (upd H x o') h':=fun b u q=>by
 have nown:∀c y,H c=some (.own y)->c≠x:=fun c y r z=>by subst z;rw [r] at mu;exact mu
 have ntup:∀c xs,H c=some (.tup xs)->c≠x:=fun c xs r z=>by subst z;rw [r] at mu;exact mu
 by_cases hb:b=x
 . subst hb;rw [qaj] at q;cases q;exact new
 . rw [qap hb] at q
   by_cases hbe:b=e
   . have q':H b=some (.own x):=by
       rcases he with z | z
       . exact absurd (hbe.trans z) hb
       . rw [hbe];exact z
     rw [q] at q';cases q'
     obtain ⟨v,hv⟩:=heo
     exact ⟨v,by rw [hbe];exact hv⟩
   . refine (ok b u q).stay (fun c v hc r=>k c v ?_ r) (fun c r=>by rw [qap (nown c b r)];exact r) fun c xs r=>by rw [qap (ntup c xs r)];exact r
     rcases hc with rfl | hc
     . exact hbe
     . rintro rfl
       rcases he with z | z
       . exact nown c b hc z
       . rw [hc] at z;cases z;exact hb rfl
end
structure Un (fs ex:List Addr) (H H':Hp) (h h':Heap):Prop where
 keep:∀b o,h.get? b=some o->H b=none->b∉fs->b∉ex->h'.get? b=some o
 slot:∀b o,h.get? b=some o->H b=none->b∈fs->b∉ex->∃sl,h'.get? b=some { o with slots:=sl }
 free:∀b o,h.get? b=some o->H b=none->b∉ex->H' b=none
 there:∀b o,h.get? b=some o->b∉ex->∃o',h'.get? b=some o'
 tups:∀b xs,H b=some (.tup xs)->H' b=some (.tup xs)
 frzs:∀b o u,H b=some (.frz o u)->H' b=some (.frz o u)
 tbls:∀b ps,H b=some (.tbl ps)->∃qgT,H' b=some (.tbl (ps++qgT))
section
variable {fs fs' ex ex':List Addr} {H H1 H2:Hp} {h h1 h2 h':Heap} {a x e:Addr} {o:HO}
def Un.any (u:Un fs ex H H1 h h1) {b:Addr} {ob:Obj} (q:h.get? b=some ob) (n:H b=none) (hx:b∉ex):∃sl,h1.get? b=some { ob with slots:=sl }:=by
 by_cases hb:b∈fs
 . exact u.slot b ob q n hb hx
 . exact ⟨ob.slots,u.keep b ob q n hb hx⟩
def Un.kept (k:∀b u,h.get? b=some u->h'.get? b=some u):Un fs ex H H h h' :=
 ⟨fun b ob q _ _ _=>k b ob q,fun b ob q _ _ _=>⟨ob.slots,k b ob q⟩,fun _ _ _ n _=>n,fun b ob q _=>⟨ob,k b ob q⟩,fun _ _ q=>q,fun _ _ _ q=>q,fun _ ps q=>⟨#[],by rw [q];simp⟩⟩
def Un.refl:Un fs ex H H h h:=Un.kept fun _ _ q=>q
def Un.laid (k:∀b u,h.get? b=some u->h'.get? b=some u) (hp:h.objs.size<=a) (hn:H a=none):Un fs ex H (upd H a o) h h' where
 keep:=fun b u q _ _ _=>k b u q
 slot:=fun b u q _ _ _=>⟨u.slots,k b u q⟩
 free:=fun b u q n _=>by rw [qap (ydh (yae (ydf q) hp))];exact n
 there:=fun b u q _=>⟨u,k b u q⟩
 tups:=fun b xs q=>by rw [qap (qaX q hn)];exact q
 frzs:=fun b u xs q=>by rw [qap (qaX q hn)];exact q
 tbls:=fun b ps q=>⟨#[],by rw [qap (qaX q hn),q];simp⟩
def Un.write (mu:Mut (H x)) (he:e=x\/H e=some (.own x)) (k:∀b u,b≠e->h.get? b=some u->h'.get? b=some u) (heo:∃u,h'.get? e=some u):Un fs ex H (upd H x o) h h':=by
 have hx:∀b,H b=none->b≠x:=fun b n z=>by subst z;rw [n] at mu;exact mu
 have hb:∀b,H b=none->b≠e:=fun b n z=>by
   subst z
   rcases he with r | r
   . exact hx b n r
   . rw [n] at r;cases r
 have hm:∀b u,H b=some u->¬Mut (some u)->b≠x:=fun b u q nm z=>by subst z;rw [q] at mu;exact nm mu
 refine ⟨fun b u q n _ _=>k b u (hb b n) q,fun b u q n _ _=>⟨u.slots,k b u (hb b n) q⟩,fun b u q n _=>by rw [qap (hx b n)];exact n,fun b u q _=>?_,
   fun b xs q=>by rw [qap (hm b _ q fun z=>z)];exact q,fun b u xs q=>by rw [qap (hm b _ q fun z=>z)];exact q,fun b ps q=>⟨#[],by rw [qap (hm b _ q fun z=>z),q];simp⟩⟩
 by_cases hbe:b=e
 . subst hbe;exact heo
 . exact ⟨u,k b u hbe q⟩
end
def trk (h:Heap) (H:Hp):List Addr:=(List.range h.objs.size).filter fun a=>(H a).isSome
def qne (h:Heap) (H:Hp):Heap:=PySem.W.hideAll h (trk h H)
def qka (h:Heap) (H:Hp):(qne h H).objs.size=h.objs.size:=PySem.W.hideAll_size _ _
def qmq {h:Heap} {H:Hp} {b:Addr} {o:Obj} (e:h.get? b=some o) (n:H b=none):(qne h H).get? b=some o :=
 PySem.W.hideAll_get _ e fun hm=>by
   have q:(H b).isSome=true:=(yay.mp hm).2
   rw [n] at q;simp at q
def qpB {h:Heap} {H:Hp} {b:Addr} {o:Obj} (e:(qne h H).get? b=some o):h.get? b=some o/\H b=none:=by
 have e':h.get? b=some o:=PySem.W.of_hideAll (trk h H) e
 refine ⟨e',?_⟩
 cases q:H b with
 | none=>rfl
 | some x =>
   have hm:b∈trk h H:=yay.mpr ⟨ybh.mpr (ydf e'),by simp [q]⟩
   have z:(qne h H).get? b=none:=PySem.W.hideAll_none (trk h H) hm
   rw [z] at e;cases e
def qoA (g h:Heap) (L:Addr):List (Addr×Obj):=(List.range h.objs.size).filterMap fun a=>if a=L\/(g.get? a).isSome=true then none else (h.get? a).map fun o=>(a,o)
def qbM (g h:Heap) (L d:Addr):List (Addr×Obj):=(qoA g h L).filter fun p=>decide (p.1≠d)
end L2
namespace L2
open PySem PySem.Spec PyProof.Rows
structure Mod (K:PySem.W.Frag) (mg:Str->Option Value) (base:Heap):Prop where
 kin:K.In base
 glob:base.Ns mainGlobals mg
 blt:∃mb,base.Ns builtinsNs mb/\∀x:Str,x ≠ "__name__" -> mb x=bootBuiltins x
 nolimit:base.NoLimit
structure Cx where
 prog:Program
 w:World
 K:PySem.W.Frag
 mg:Str->Option Value
 base:Heap
 A:Around
 N:List Str
 s₀:Shared
 H₀:Hp
 env:Env
 outer:List Env
 stack:List Env
 ex:List Addr
 fn:Str->Bool
 calm:Bool
 pn:List (Addr×Obj)
 xe:Value->Shared->Prop
def frs (l:List Env):List Addr:=l.filterMap (·.frame)
abbrev Cx.fs (X:Cx):List Addr:=frs X.outer
def Vis (sc:Scope) (x:Str):Prop:=sc.names.lookup x=some .local\/sc.names.lookup x=some .cell\/sc.names.lookup x=some .free
def Loc (sc:Scope) (x:Str):Prop:=sc.names.lookup x=some .local\/sc.names.lookup x=some .cell
def qs8 (env:Env) (h:Heap) (m:Str->Option Value) (x:Str) (u:Value):Prop :=
 (env.kindOf x=some .local/\m x=some u)\/((env.kindOf x=some .cell\/env.kindOf x=some .free)/\∃c,env.cells.lookup x=some c/\h.IsCell c (some u))
structure Cx.Ok (X:Cx):Prop where
 mod:Mod X.K X.mg X.base
 kind:X.env.scope.kind = .function
 glob:X.env.globals=mainGlobals
 blt:X.env.builtins=builtinsNs
 above:X.s₀.heap.objs.size<=X.env.locals
 inj:∀x y c,X.env.cells.lookup x=some c->X.env.cells.lookup y=some c->x=y
 has:∀x,(X.env.kindOf x=some .cell\/X.env.kindOf x=some .free)->∃c,X.env.cells.lookup x=some c
 cab:∀x c,X.fn x=true->X.env.cells.lookup x=some c->X.s₀.heap.objs.size<=c
 hd:X.calm=true->X.A.handled=none
 frames:X.A.frames=some X.stack
 stk:X.stack=X.outer\/(X.stack=X.env::X.outer/\X.env.frame=some X.env.locals)
 exf:∀b∈X.ex,b≠X.env.locals/\∀x c,X.env.cells.lookup x=some c->c≠b
 bs:∀b o,X.base.get? b=some o->X.s₀.heap.get? b=some o/\X.H₀ b=none
 bsz:X.base.objs.size<=X.s₀.heap.objs.size
 noex:∀b o,X.base.get? b=some o->b∉X.ex
 exfs:∀b∈X.ex,b∉X.fs
 funs:X.s₀.heap.FunFrames X.base X.outer
 frf:∀b∈X.fs,X.H₀ b=none
structure Inv (X:Cx) (pins:List (Addr×Obj)) (σ:List (Option V)) (H:Hp) (s:Shared):Prop where
 ok:X.Ok
 os:s.os=X.s₀.os
 bare:AllBare s.gens
 base:Un X.fs X.ex X.H₀ H X.s₀.heap s.heap
 loc:∃m,s.heap.Ns X.env.locals m/\∀(i:Nat) (x:Str) (v:V),X.N[i]?=some x->σ[i]?=some (some v)->Vis X.env.scope x->∃u,qbg v u/\qs8 X.env s.heap m x u
 cell:∀x c,X.env.cells.lookup x=some c->∃v,s.heap.IsCell c v
 free:H X.env.locals=none
 freeC:∀x c,X.env.cells.lookup x=some c->H c=none
 pin:∀p∈X.pn++pins,s.heap.get? p.1=some p.2/\H p.1=none/\p.1≠X.env.locals/\p.1∉X.fs/\∀v,p.2.data ≠ .cell v
 hok:HOk X.prog X.w H s.heap
 len:σ.length=X.N.length
section
variable {X:Cx} {pins:List (Addr×Obj)} {σ:List (Option V)} {H H':Hp} {s:Shared} {h':Heap}
def Cx.Ok.nofr (ok:X.Ok) {b:Addr} {o:Obj} (e:X.base.get? b=some o):b∉X.fs:=fun hb=>by
 have:=(ok.funs.mem hb).1
 rw [e] at this;cases this
def Inv.bs (I:Inv X pins σ H s):∀b o,X.base.get? b=some o->s.heap.get? b=some o/\H b=none:=fun b o e =>
 ⟨I.base.keep b o (I.ok.bs b o e).1 (I.ok.bs b o e).2 (I.ok.nofr e) (I.ok.noex b o e),I.base.free b o (I.ok.bs b o e).1 (I.ok.bs b o e).2 (I.ok.noex b o e)⟩
def Inv.bk (I:Inv X pins σ H s):∀b o,X.base.get? b=some o->s.heap.get? b=some o:=fun b o e=>(I.bs b o e).1
def Inv.mod (I:Inv X pins σ H s):Mod X.K X.mg X.base:=I.ok.mod
def Inv.kIn (I:Inv X pins σ H s):X.K.In s.heap:=I.ok.mod.kin.keeps I.bk
def Inv.fr (I:Inv X pins σ H s):∃m,Fr X.base X.env.locals s.heap m :=
 let ⟨m,hn,_⟩:=I.loc
 ⟨m,hn,I.bk,ycf I.ok.bsz I.ok.above⟩
def Inv.lt (I:Inv X pins σ H s):X.env.locals<s.heap.objs.size:=let ⟨_,hn,_⟩:=I.loc;hn.lt
def Inv.sz (I:Inv X pins σ H s):X.s₀.heap.objs.size<=s.heap.objs.size:=ycf I.ok.above (yce I.lt)
def Inv.nofs (I:Inv X pins σ H s) {a:Addr} (h:s.heap.objs.size<=a):a∉X.fs:=fun hb=>by
 obtain ⟨_,o,ho,_⟩:=I.ok.funs.mem hb
 exact absurd (yae (ydf ho) (ycf I.sz h)) (ydz _)
def Inv.cne (I:Inv X pins σ H s):∀x c,X.env.cells.lookup x=some c->c≠X.env.locals:=fun x c e z=>by
 obtain ⟨v,o,ho,hd⟩:=I.cell x c e
 obtain ⟨m,⟨o',es,ep,ho',hd',_⟩,_⟩:=I.loc
 rw [z,ho'] at ho;cases ho;rw [hd'] at hd;cases hd
def Inv.funs (I:Inv X pins σ H s):s.heap.FunFrames X.base X.outer:=by
 have all:∀(l:List Env),(∀b∈frs l,b∈X.fs)->X.s₀.heap.FunFrames X.base l->s.heap.FunFrames X.base l:=by
   intro l
   induction l with
   | nil=>intro _ _;trivial
   | cons env r ih =>
     intro hs hl
     obtain ⟨hk,⟨L,o,hf,hn,ho,hd⟩,hr⟩:=hl
     have hL:L∈X.fs:=hs L (by unfold frs;rw [ycv,hf];exact ybb)
     obtain ⟨sl,e⟩:=I.base.slot L o ho (I.ok.frf L hL) hL fun z=>I.ok.exfs L z hL
     exact ⟨hk,⟨L,_,hf,hn,e,hd⟩,ih (fun b hb=>hs b (by unfold frs;rw [ycv,hf];exact ybe _ hb)) hr⟩
 exact all X.outer (fun _ hb=>hb) I.ok.funs
def Inv.stack (I:Inv X pins σ H s):s.heap.FunFrames X.base X.stack:=by
 rcases I.ok.stk with e | ⟨e,hf⟩
 . rw [e];exact I.funs
 . rw [e]
   obtain ⟨m,hn,_⟩:=I.loc
   refine .cons (by rw [I.ok.kind];decide) hf hn ?_ I.funs
   exact Heap.get?_none_of_le (ycf I.ok.bsz I.ok.above)
def Inv.stkSub (I:Inv X pins σ H s):∀b∈frs X.stack,b∈X.env.locals::X.fs:=fun b hb=>by
 rcases I.ok.stk with e | ⟨e,hf⟩
 . rw [e] at hb;exact ybe _ hb
 . rw [e] at hb
   unfold frs at hb
   rw [ycv,hf] at hb
   exact hb
def Inv.stkFree (I:Inv X pins σ H s):∀b∈frs X.stack,H b=none:=fun b hb=>by
 rcases ybd.mp (I.stkSub b hb) with e | hb
 . rw [e];exact I.free
 . obtain ⟨_,o,ho,_⟩:=I.ok.funs.mem hb
   exact I.base.free b o ho (I.ok.frf b hb) fun z=>I.ok.exfs b z hb
def Inv.step {g':Array GenState} {t':Nat} {d':Drawn} {ch:List Addr} (I:Inv X pins σ H s)
   (hch:∀b∈ch,(b∈X.ex\/X.s₀.heap.objs.size<=b)/\b≠X.env.locals/\(∀x c,X.env.cells.lookup x=some c->c≠b)/\∀p∈X.pn++pins,p.1≠b)
   (keep:∀b o,b≠X.env.locals->b∉X.fs->b∉ch->s.heap.get? b=some o->H b=none->h'.get? b=some o)
   (slot:∀b o,b≠X.env.locals->b∈X.fs->b∉ch->s.heap.get? b=some o->H b=none->∃sl,h'.get? b=some { o with slots:=sl }) (free:∀b o,b∉ch->s.heap.get? b=some o->H b=none->H' b=none)
   (there:∀b o,b∉ch->s.heap.get? b=some o->∃o',h'.get? b=some o')
   (tups:∀b xs,H b=some (.tup xs)->H' b=some (.tup xs)) (frzs:∀b o u,H b=some (.frz o u)->H' b=some (.frz o u)) (tbls:∀b ps,H b=some (.tbl ps)->∃qgT,H' b=some (.tbl (ps++qgT)))
   (ns:∀m,s.heap.Ns X.env.locals m->h'.Ns X.env.locals m) (hok:HOk X.prog X.w H' h') (hg:AllBare g') :
   Inv X pins σ H' { s with heap:=h',gens:=g',drawn:=d',toks:=t' }:=by
 have neL:∀b o,X.s₀.heap.get? b=some o->b≠X.env.locals:=fun b o e=>ydh (yae (ydf e) I.ok.above)
 have neC:∀b o,X.s₀.heap.get? b=some o->b∉X.ex->b∉ch:=fun b o e hx hb=>by
   rcases (hch b hb).1 with z | z
   . exact hx z
   . exact absurd (yae (ydf e) z) (ydz _)
 have cellK:∀x c,X.env.cells.lookup x=some c->∀v,s.heap.IsCell c v->h'.IsCell c v:=fun x c e v ⟨o,ho,hd⟩=>by
   have nch:c∉ch:=fun z=>(hch c z).2.2.1 x c e rfl
   by_cases hc:c∈X.fs
   . obtain ⟨sl,q⟩:=slot c o (I.cne x c e) hc nch ho (I.freeC x c e)
     exact ⟨_,q,hd⟩
   . exact ⟨o,keep c o (I.cne x c e) hc nch ho (I.freeC x c e),hd⟩
 refine ⟨I.ok,I.os,hg,⟨fun b o e n hb hx=>?_,fun b o e n hb hx=>?_,fun b o e n hx=>?_,fun b o e hx=>?_,fun b xs e=>tups b xs (I.base.tups b xs e),fun b o xs e=>frzs b o xs (I.base.frzs b o xs e),fun b ps e=>?_⟩,?_,fun x c e=>?_,?_,fun x c e=>?_,fun p hp=>?_,hok,I.len⟩
 . exact keep b o (neL b o e) hb (neC b o e hx) (I.base.keep b o e n hb hx) (I.base.free b o e n hx)
 . obtain ⟨sl,e1⟩:=I.base.slot b o e n hb hx
   obtain ⟨sl',e2⟩:=slot b _ (neL b o e) hb (neC b o e hx) e1 (I.base.free b o e n hx)
   exact ⟨sl',e2⟩
 . obtain ⟨o',e1⟩:=I.base.there b o e hx
   exact free b o' (neC b o e hx) e1 (I.base.free b o e n hx)
 . obtain ⟨o',e1⟩:=I.base.there b o e hx
   exact there b o' (neC b o e hx) e1
 . obtain ⟨m1,e1⟩:=I.base.tbls b ps e
   obtain ⟨m2,e2⟩:=tbls b _ e1
   exact ⟨m1++m2,by rw [e2,yea]⟩
 . obtain ⟨m,hn,hl⟩:=I.loc
   refine ⟨m,ns m hn,fun i x v e1 e2 e3=>?_⟩
   obtain ⟨u,r,l⟩:=hl i x v e1 e2 e3
   refine ⟨u,r,?_⟩
   rcases l with l | ⟨k,c,e,z⟩
   . exact .inl l
   . exact .inr ⟨k,c,e,cellK x c e _ z⟩
 . obtain ⟨v,z⟩:=I.cell x c e
   exact ⟨v,cellK x c e v z⟩
 . obtain ⟨m,⟨o,_,_,ho,_⟩,_⟩:=I.loc
   exact free _ o (fun z=>(hch _ z).2.1 rfl) ho I.free
 . obtain ⟨v,o,ho,hd⟩:=I.cell x c e
   exact free c o (fun z=>(hch c z).2.2.1 x c e rfl) ho (I.freeC x c e)
 . obtain ⟨e,n,ne,nf,d⟩:=I.pin p hp
   have nch:p.1∉ch:=fun z=>(hch p.1 z).2.2.2 p hp rfl
   exact ⟨keep p.1 p.2 ne nf nch e n,free p.1 p.2 nch e n,ne,nf,d⟩
def Inv.un {t':Nat} (I:Inv X pins σ H s) (u:Un X.fs [] H H' s.heap h') (hok:HOk X.prog X.w H' h'):Inv X pins σ H' { s with heap:=h',toks:=t' }:=by
 obtain ⟨m,⟨o,es,ep,ho,r⟩,_⟩:=id I.loc
 obtain ⟨sl,hL⟩:=u.any ho I.free (by simp)
 exact I.step (g':=s.gens) (d':=s.drawn) (ch:=[]) (fun _ z=>nomatch z) (fun b o _ hb _ e n=>u.keep b o e n hb (by simp)) (fun b o _ hb _ e n=>u.slot b o e n hb (by simp)) (fun b o _ e n=>u.free b o e n (by simp)) (fun b o _ e=>u.there b o e (by simp)) u.tups u.frzs u.tbls (fun m' hm=>by
   obtain ⟨o',es',ep',ho',r'⟩:=hm
   rw [ho] at ho';cases ho'
   exact ⟨_,es',ep',hL,r'⟩) hok I.bare
def Inv.call {g':Array GenState} {t':Nat} {d':Drawn} {ch:List Addr} (I:Inv X pins σ H s) (u:Un (frs X.stack) ch H H' s.heap h') (hok:HOk X.prog X.w H' h') (hg:AllBare g')
   (hch:∀b∈ch,(b∈X.ex\/X.s₀.heap.objs.size<=b)/\b≠X.env.locals/\(∀x c,X.env.cells.lookup x=some c->c≠b)/\∀p∈X.pn++pins,p.1≠b) :
   Inv X pins σ H' { s with heap:=h',gens:=g',drawn:=d',toks:=t' }:=by
 obtain ⟨m,⟨o,es,ep,ho,r⟩,_⟩:=id I.loc
 obtain ⟨sl,hL⟩:=u.any ho I.free fun z=>(hch _ z).2.1 rfl
 exact I.step (ch:=ch) hch (fun b o hL hb hc e n=>u.keep b o e n (fun z=>(ybd.mp (I.stkSub b z)).elim hL hb) hc) (fun b o _ _ hc e n=>u.any e n hc) (fun b o hc e n=>u.free b o e n hc) (fun b o hc e=>u.there b o e hc) u.tups u.frzs u.tbls (fun m' hm=>by
   obtain ⟨o',es',ep',ho',r'⟩:=hm
   rw [ho] at ho';cases ho'
   exact ⟨_,es',ep',hL,r'⟩) hok hg
def Inv.turned {t':Nat} {it:Addr} (I:Inv X pins σ H s) (k:∀b o,b≠it->s.heap.get? b=some o->h'.get? b=some o) (hn:H it=none) (hL:it≠X.env.locals)
   (h1:it∈X.ex\/X.s₀.heap.objs.size<=it) (h2:∀x c,X.env.cells.lookup x=some c->c≠it) (h3:∀p∈X.pn++pins,p.1≠it):Inv X pins σ H { s with heap:=h',toks:=t' }:=by
 have nit:∀b u,H b=some u->b≠it:=fun b u e z=>by rw [z,hn] at e;cases e
 refine I.step (g':=s.gens) (d':=s.drawn) (ch:=[it]) (fun b hb=>?_) (fun b o _ _ hc e _=>k b o (fun z=>hc (by simp [z])) e) (fun b o _ _ hc e _=>⟨o.slots,k b o (fun z=>hc (by simp [z])) e⟩) (fun _ _ _ _ n=>n)
   (fun b o hc e=>⟨o,k b o (fun z=>hc (by simp [z])) e⟩) (fun _ _ e=>e) (fun _ _ _ e=>e) (fun b ps e=>⟨#[],by rw [e];simp⟩) (fun m hm=>?_) (fun b u e=>?_) I.bare
 . have e:b=it:=by simpa using hb
   subst e
   exact ⟨h1,hL,h2,h3⟩
 . obtain ⟨o,es,ep,ho,r⟩:=hm
   exact ⟨o,es,ep,k _ o (Ne.symm hL) ho,r⟩
 . refine (I.hok b u e).stay (fun c v hc q=>k c v ?_ q) (fun _ q=>q) fun _ _ q=>q
   rcases hc with z | z
   . rw [z];exact nit b u e
   . exact nit c _ z
def Inv.tok (I:Inv X pins σ H s) (t:Nat):Inv X pins σ H { s with toks:=t }:=I.un (h':=s.heap) (t':=t) Un.refl I.hok
def Inv.kept {t':Nat} (I:Inv X pins σ H s) (k:∀b u,s.heap.get? b=some u->h'.get? b=some u):Inv X pins σ H { s with heap:=h',toks:=t' }:=I.un (Un.kept k) (I.hok.kept k)
def Inv.laid {a:Addr} {o:HO} {t':Nat} (I:Inv X pins σ H s) (k:∀b u,s.heap.get? b=some u->h'.get? b=some u) (hp:s.heap.objs.size<=a) (new:qbe X.prog X.w (upd H a o) h' a o) :
 Inv X pins σ (upd H a o) { s with heap:=h',toks:=t' }:=I.un (Un.laid k hp (I.hok.fresh hp)) (I.hok.laid k hp new)
def Inv.write {x e:Addr} {o:HO} {t':Nat} (I:Inv X pins σ H s) (mu:Mut (H x)) (he:e=x\/H e=some (.own x)) (k:∀b u,b≠e->s.heap.get? b=some u->h'.get? b=some u) (heo:∃u,h'.get? e=some u)
 (new:qbe X.prog X.w (upd H x o) h' x o):Inv X pins σ (upd H x o) { s with heap:=h',toks:=t' }:=I.un (Un.write mu he k heo) (I.hok.write mu he k heo new)
def Inv.weak {σ':List (Option V)} (I:Inv X pins σ H s) (hl:σ'.length=σ.length) (w:∀(i:Nat) v,σ'[i]?=some (some v)->σ[i]?=some (some v)):Inv X pins σ' H s :=
 ⟨I.ok,I.os,I.bare,I.base,let ⟨m,hn,hl'⟩:=I.loc;⟨m,hn,fun i x v e1 e2 e3=>hl' i x v e1 (w i v e2) e3⟩,I.cell,I.free,I.freeC,I.pin,I.hok,hl.trans I.len⟩
def Inv.pins_of {pins':List (Addr×Obj)} (I:Inv X pins σ H s) (h:∀p∈pins',s.heap.get? p.1=some p.2/\H p.1=none/\p.1≠X.env.locals/\p.1∉X.fs/\∀v,p.2.data ≠ .cell v):Inv X pins' σ H s :=
 ⟨I.ok,I.os,I.bare,I.base,I.loc,I.cell,I.free,I.freeC,fun p hp=>(yat.mp hp).elim (fun z=>I.pin p (yas _ z)) (h p),I.hok,I.len⟩
def qgv {N:List Str} (hN:N.Nodup) {i j:Nat} {x:Str} (a:N[i]?=some x) (b:N[j]?=some x):i=j:=by
 obtain ⟨h1,e1⟩:=ycd.mp a
 obtain ⟨h2,e2⟩:=ycd.mp b
 exact (yeb hN).mp (e1.trans e2.symm)
def qj9 {M:Model} {A:Around} {E:Value->Shared->Prop} {i:Nat} {x:Str} {v:V} {u:Value} {Q:Unit->Shared->Prop} (I:Inv X pins σ H s) (hN:X.N.Nodup) (hi:X.N[i]?=some x) (hx:Loc X.env.scope x) (r:qbg v u)
   (h:∀s',Inv X pins (σ.set i (some v)) H s'->(∃a,Heap.SameBut a s.heap s'.heap/\(a=X.env.locals\/X.env.cells.lookup x=some a))->Q () s') (hf:X.fn x=true\/X.env.scope.names.lookup x=some .local:=by first | exact .inl rfl | exact .inr rfl | assumption):wpAny M A (storeName X.env x u) Q E s:=by
 obtain ⟨m,hn,hl⟩:=id I.loc
 have hcls:(X.env.scope.kind == .class||(X.env.scope.kind == .module&&X.env.locals != X.env.globals))=false:=by rw [I.ok.kind];rfl
 have hiσ:i<σ.length:=by rw [I.len];exact (ycd.mp hi).1
 have cne:=I.cne
 have tracked:∀{a:Addr} {h':Heap},(∃o,s.heap.get? a=some o/\H a=none)->Heap.SameBut a s.heap h'->HOk X.prog X.w H h':=fun {a h'} ha hs b ob e=>by
   obtain ⟨_,_,hfree⟩:=ha
   refine (I.hok b ob e).stay (fun c w' hc q=>(hs.2 c ?_).trans q) (fun _ q=>q) fun _ _ q=>q
   rintro rfl
   rcases hc with rfl | hc
   . rw [hfree] at e;cases e
   . rw [hfree] at hc;cases hc
 rcases hx with hk | hk
 . refine wpAny_storeName_local hk hn (fun h' hn' hs=>?_) hcls
   obtain ⟨oL,_,_,hoL,_⟩:=id hn
   refine h _ ⟨I.ok,I.os,I.bare,⟨fun b o e n hb hx=>?_,fun b o e n hb hx=>?_,I.base.free,fun b o e hx=>?_,I.base.tups,I.base.frzs,I.base.tbls⟩,⟨_,hn',fun j y v' e1 e2 e3=>?_⟩,fun y c e=>?_,I.free,I.freeC,fun p hp=>?_,tracked ⟨oL,hoL,I.free⟩ hs,by simpa using I.len⟩ ⟨_,hs,.inl rfl⟩
   . exact (hs.2 b (ydh (yae (ydf e) I.ok.above))).trans (I.base.keep b o e n hb hx)
   . obtain ⟨sl,e1⟩:=I.base.slot b o e n hb hx
     exact ⟨sl,(hs.2 b (ydh (yae (ydf e) I.ok.above))).trans e1⟩
   . obtain ⟨o',e1⟩:=I.base.there b o e hx
     exact ⟨o',(hs.2 b (ydh (yae (ydf e) I.ok.above))).trans e1⟩
   . by_cases hj:j=i
     . subst hj
       rw [hi] at e1;cases e1
       rw [yec hiσ] at e2
       cases e2
       exact ⟨u,r,.inl ⟨hk,by simp⟩⟩
     . rw [yed (Ne.symm hj)] at e2
       obtain ⟨u',r',q⟩:=hl j y v' e1 e2 e3
       refine ⟨u',r',?_⟩
       rcases q with ⟨k,e⟩ | ⟨k,c,e,z⟩
       . refine .inl ⟨k,?_⟩
         have:y≠x:=fun e=>hj (qgv hN e1 (e▸hi))
         simp [this,e]
       . exact .inr ⟨k,c,e,z.sameBut hs (cne y c e)⟩
   . obtain ⟨w',z⟩:=I.cell y c e
     exact ⟨w',z.sameBut hs (cne y c e)⟩
   . obtain ⟨e,n,ne,nf,d⟩:=I.pin p hp
     exact ⟨(hs.2 p.1 ne).trans e,n,ne,nf,d⟩
 . have hfn:X.fn x=true:=by
     rcases hf with z | z
     . exact z
     . rw [z] at hk;cases hk
   obtain ⟨c,hc⟩:=I.ok.has x (.inl hk)
   obtain ⟨w',z⟩:=I.cell x c hc
   refine wpAny_storeName_cell I.ok.kind hk hc z (fun h' hc' hs=>?_)
   obtain ⟨oc,hoc,hocd⟩:=id z
   refine h { s with heap:=h' } ⟨I.ok,I.os,I.bare,⟨fun b o e n hb hx=>?_,fun b o e n hb hx=>?_,I.base.free,fun b o e hx=>?_,I.base.tups,I.base.frzs,I.base.tbls⟩,⟨m,hn.sameBut hs (Ne.symm (cne x c hc)),fun j y v' e1 e2 e3=>?_⟩,fun y c' e=>?_,I.free,I.freeC,fun p hp=>?_,tracked ⟨oc,hoc,I.freeC x c hc⟩ hs,by simpa using I.len⟩ ⟨c,hs,.inr hc⟩
   . exact (hs.2 b (ydh (yae (ydf e) (I.ok.cab x c hfn hc)))).trans (I.base.keep b o e n hb hx)
   . obtain ⟨sl,e1⟩:=I.base.slot b o e n hb hx
     exact ⟨sl,(hs.2 b (ydh (yae (ydf e) (I.ok.cab x c hfn hc)))).trans e1⟩
   . obtain ⟨o',e1⟩:=I.base.there b o e hx
     exact ⟨o',(hs.2 b (ydh (yae (ydf e) (I.ok.cab x c hfn hc)))).trans e1⟩
   . by_cases hj:j=i
     . subst hj
       rw [hi] at e1;cases e1
       rw [yec hiσ] at e2
       cases e2
       exact ⟨u,r,.inr ⟨.inl hk,c,hc,hc'⟩⟩
     . rw [yed (Ne.symm hj)] at e2
       obtain ⟨u',r',q⟩:=hl j y v' e1 e2 e3
       refine ⟨u',r',?_⟩
       rcases q with q | ⟨k,c',e,z'⟩
       . exact .inl q
       . refine .inr ⟨k,c',e,z'.sameBut hs ?_⟩
         rintro rfl
         exact hj (qgv hN e1 (I.ok.inj _ _ _ e hc▸hi))
   . by_cases hcc:c'=c
     . subst hcc;exact ⟨_,hc'⟩
     . obtain ⟨w2,z2⟩:=I.cell y c' e
       exact ⟨w2,z2.sameBut hs hcc⟩
   . obtain ⟨e,n,ne,nf,d⟩:=I.pin p hp
     refine ⟨(hs.2 p.1 ?_).trans e,n,ne,nf,d⟩
     intro q
     rw [q,hoc] at e
     have q':oc=p.2:=Option.some.inj e
     exact d w' (by rw [<-q'];exact hocd)
def qcU {M:Model} {A:Around} {E:Value->Shared->Prop} {i:Nat} {x:Str} {v:V} {u:Value} {Q:Unit->Shared->Prop} (I:Inv X pins σ H s) (hN:X.N.Nodup) (hi:X.N[i]?=some x) (hx:Loc X.env.scope x) (r:qbg v u)
   (h:∀s',Inv X pins (σ.set i (some v)) H s'->Q () s') (hf:X.fn x=true\/X.env.scope.names.lookup x=some .local:=by first | exact .inl rfl | exact .inr rfl | assumption):wpAny M A (storeName X.env x u) Q E s :=
 qj9 I hN hi hx r (fun s' I' _=>h s' I') hf
def Inv.call' {s':Shared} {ch:List Addr} (I:Inv X pins σ H s) (ho:s'.os=s.os) (u:Un (frs X.stack) ch H H' s.heap s'.heap) (hok:HOk X.prog X.w H' s'.heap) (hg:AllBare s'.gens)
   (hch:∀b∈ch,(b∈X.ex\/X.s₀.heap.objs.size<=b)/\b≠X.env.locals/\(∀x c,X.env.cells.lookup x=some c->c≠b)/\∀p∈X.pn++pins,p.1≠b):Inv X pins σ H' s':=by
 obtain ⟨h',g',d',t',o'⟩:=s'
 have e:o'=s.os:=ho
 subst e
 exact I.call (g':=g') (t':=t') (d':=d') u hok hg hch
end
abbrev XK:=Value->Option Addr->Hp->Prop
abbrev St:=List (Option V)
abbrev VK:=V->Hp->Prop
abbrev TE:=St->Hp->VK->Prop
abbrev TT:=St->Hp->(Bool->Hp->Prop)->Prop
abbrev TA:=St->Hp->(List V->Hp->Prop)->Prop
structure qe7 where
 nx:St->Hp->Prop
 rt:VK
 bk:St->Hp->Prop:=fun _ _=>False
 ct:St->Hp->Prop:=fun _ _=>False
abbrev TS:=qe7->St->Hp->Prop
def EP (X:Cx) (pins:List (Addr×Obj)) (σ:St) (Q:VK) (u:Value) (s':Shared):Prop:=∃v H',Inv X pins σ H' s'/\qbg v u/\Q v H'
def TP (X:Cx) (pins:List (Addr×Obj)) (σ:St) (Q:Bool->Hp->Prop) (b:Bool) (s':Shared):Prop:=∃H',Inv X pins σ H' s'/\Q b H'
def AP (X:Cx) (pins:List (Addr×Obj)) (σ:St) (Q:List V->Hp->Prop) (us:List Value) (s':Shared):Prop:=∃vs H',Inv X pins σ H' s'/\qaV vs us/\Q vs H'
def SP (X:Cx) (pins:List (Addr×Obj)) (D:qe7) (f:Flow) (s':Shared):Prop :=
 match f with
 | .next=>∃σ' H',Inv X pins σ' H' s'/\D.nx σ' H'
 | .brk=>∃σ' H',Inv X pins σ' H' s'/\D.bk σ' H'
 | .cont=>∃σ' H',Inv X pins σ' H' s'/\D.ct σ' H'
 | .ret u=>∃v σ' H',Inv X pins σ' H' s'/\qbg v u/\D.rt v H'
def PE (X:Cx) (e:Expr) (t:TE):Prop :=
 ∀(pins:List (Addr×Obj)) (s:Shared) (σ:St) (H:Hp) (Q:VK),Inv X pins σ H s->t σ H Q->wpAny (model X.prog X.w) X.A (eval e X.env) (EP X pins σ Q) X.xe s
def PT (X:Cx) (e:Expr) (t:TT):Prop :=
 ∀(pins:List (Addr×Obj)) (s:Shared) (σ:St) (H:Hp) (Q:Bool->Hp->Prop),Inv X pins σ H s->t σ H Q->wpAny (model X.prog X.w) X.A (isTrue e X.env (eval e X.env)) (TP X pins σ Q) X.xe s
def PW (X:Cx) (e:Expr) (t:TT):Prop :=
 ∀(whole:Sem Value) (pins:List (Addr×Obj)) (s:Shared) (σ:St) (H:Hp) (Q:Bool->Hp->Prop),Inv X pins σ H s->t σ H Q->wpAny (model X.prog X.w) X.A (isTrue e X.env whole) (TP X pins σ Q) X.xe s
def PW.pt {X:Cx} {e:Expr} {t:TT} (h:PW X e t):PT X e t:=h _
def PA (X:Cx) (es:List Expr) (t:TA):Prop :=
 ∀(pos:Pos) (pins:List (Addr×Obj)) (s:Shared) (σ:St) (H:Hp) (Q:List V->Hp->Prop),Inv X pins σ H s->t σ H Q->wpAny (model X.prog X.w) X.A (spliced (backTo pos (starEach es X.env))) (AP X pins σ Q) X.xe s
def PS (X:Cx) (st:Stmt) (t:TS):Prop :=
 ∀(pins:List (Addr×Obj)) (s:Shared) (σ:St) (H:Hp) (D:qe7),Inv X pins σ H s->t D σ H->wpAny (model X.prog X.w) X.A (exec st X.env) (SP X pins D) X.xe s
def PSs (X:Cx) (st:List Stmt) (t:TS):Prop :=
 ∀(pins:List (Addr×Obj)) (s:Shared) (σ:St) (H:Hp) (D:qe7),Inv X pins σ H s->t D σ H->wpAny (model X.prog X.w) X.A (execs st X.env) (SP X pins D) X.xe s
def thn {α:Type} {t:Sem α} {Q Q':α->Shared->Prop} {M:Model} {A:Around} {E:Value->Shared->Prop} {s:Shared} (h:wpAny M A t Q E s) (hQ:∀a s,Q a s->Q' a s):wpAny M A t Q' E s:=wpAny_mono h hQ fun _ _ x=>x
end L2
namespace L2
open PySem PySem.Spec PyProof.Rows
section
variable {X:Cx}
def bin {a b:Expr} {ta tb:TE} (ha:PE X a ta) (hb:PE X b tb) {pins:List (Addr×Obj)} {s:Shared} {σ:St} {H:Hp} {R:V->V->Hp->Prop} (I:Inv X pins σ H s) (h:ta σ H fun x H1=>tb σ H1 fun y H2=>R x y H2)
   {α:Type} {Q:α->Shared->Prop} {f:Value->Value->Sem α}
   (hf:∀v u s2 x y H2,Inv X pins σ H2 s2->qbg x v->qbg y u->R x y H2->wpAny (model X.prog X.w) X.A (f v u) Q X.xe s2) :
   wpAny (model X.prog X.w) X.A (eval a X.env) (fun v s₁=>wpAny (model X.prog X.w) X.A (eval b X.env) (fun u s₂=>wpAny (model X.prog X.w) X.A (f v u) Q X.xe s₂) X.xe s₁) X.xe s:=by
 refine thn (ha pins s σ H _ I h) fun v s1 ⟨x,H1,I1,r1,q1⟩=>?_
 refine thn (hb pins s1 σ H1 _ I1 q1) fun u s2 ⟨y,H2,I2,r2,q2⟩=>?_
 exact hf v u s2 x y H2 I2 r1 r2 q2
def qrT (i:Nat):TE:=fun σ H Q=>∃v,σ[i]?=some (some v)/\Q v H
def tC (v:V):TE:=fun _ H Q=>Q v H
def qq2 {i:Nat} {x:Str} {pos:Pos} (hN:X.N[i]?=some x) (hv:Vis X.env.scope x) (hd:(x==("__debug__" : Str))=false:=by decide) (hcd:(x==("__classdict__" : Str))=false:=by decide):PE X (.Name x pos) (qrT i):=by
 intro pins s σ H Q I h
 obtain ⟨v,e,h⟩:=h
 obtain ⟨m,hn,hl⟩:=I.loc
 obtain ⟨u,r,l⟩:=hl i x v hN e hv
 have fin:EP X pins σ Q u s:=⟨v,H,I,r,h⟩
 rcases l with ⟨hk,hm⟩ | ⟨hk,c,hc,hcell⟩
 . exact wpAny_Name (wpAny_loadName_local I.ok.kind hk hn hm fin) hd
 . rcases hk with hk | hk
   . exact wpAny_Name (wpAny_loadName_cell I.ok.kind hk hc hcell fin) hd
   . exact wpAny_Name (wpAny_loadName_free I.ok.kind hk hc hcell fin hcd) hd
def qaf {i j pos}:PE X (.Constant (.int i) j pos) (tC (.int i)):=fun _ _ _ H _ I h=>wpAny_Constant_int ⟨.int i,H,I.tok _,⟨_,rfl⟩,h⟩
def qfE {b j pos}:PE X (.Constant (.bool b) j pos) (tC (.bl b)):=fun _ _ _ H _ I h=>Constant_bool ⟨.bl b,H,I,rfl,h⟩
def qi1 {j pos}:PE X (.Constant .none j pos) (tC .non):=fun _ _ _ H _ I h=>Constant_none ⟨.non,H,I,rfl,h⟩
def qak {x j pos}:PE X (.Constant (.str x) j pos) (tC (.str x)):=fun _ _ _ H _ I h=>Calls.Constant_str ⟨.str x,H,I.tok _,⟨_,rfl⟩,h⟩
def Gl (X:Cx) (x:Str):Prop:=X.env.kindOf x=some .globalImplicit
def qd2 {E:Value->Shared->Prop} {pins:List (Addr×Obj)} {s:Shared} {σ:St} {H:Hp} {x:Str} {u:Value} {pos:Pos} {Q:Value->Shared->Prop} (I:Inv X pins σ H s) (hg:Gl X x) (hm:X.mg x=some u) (h:Q u s)
   (hd:(x==("__debug__" : Str))=false:=by decide):wpAny (model X.prog X.w) X.A (eval (.Name x pos) X.env) Q E s :=
 Calls.Name_function_global I.ok.kind hg (Calls.loadGlobal_global (by rw [I.ok.glob];exact I.mod.glob.keeps I.bk) hm h) hd
def qhu {E:Value->Shared->Prop} {pins:List (Addr×Obj)} {s:Shared} {σ:St} {H:Hp} {x:Str} {u:Value} {pos:Pos} {Q:Value->Shared->Prop} (I:Inv X pins σ H s) (hg:Gl X x) (hm:X.mg x=none) (hv:bootBuiltins x=some u) (h:Q u s)
   (hn:x ≠ "__name__" := by decide) (hd:(x==("__debug__" : Str))=false:=by decide):wpAny (model X.prog X.w) X.A (eval (.Name x pos) X.env) Q E s:=by
 obtain ⟨mb,h1,h2⟩:=I.mod.blt
 exact Calls.Name_function_global I.ok.kind hg (Calls.loadGlobal_builtin (by rw [I.ok.glob];exact I.mod.glob.keeps I.bk) hm (by rw [I.ok.blt];exact h1.keeps I.bk) ((h2 x hn).trans hv) h) hd
def qb5 {x:Str} {v:V} {u:Value} {pos:Pos} (hg:Gl X x) (hm:X.mg x=some u) (r:qbg v u) (hd:(x==("__debug__" : Str))=false:=by decide):PE X (.Name x pos) (tC v) :=
 fun _ _ _ H _ I h=>qd2 I hg hm ⟨v,H,I,r,h⟩ hd
def qdN {x:Str} {v:V} {u:Value} {pos:Pos} (hg:Gl X x) (hm:X.mg x=none) (hv:bootBuiltins x=some u) (r:qbg v u) (hn:x ≠ "__name__" := by decide) (hd:(x==("__debug__" : Str))=false:=by decide):PE X (.Name x pos) (tC v) :=
 fun _ _ _ H _ I h=>qhu I hg hm hv ⟨v,H,I,r,h⟩ hn hd
variable {a b:Expr} {ta tb:TE} {pos:Pos}
def PC (X:Cx) (op:CmpOp) (a b:Expr) (t:TE):Prop :=
 ∀(pins:List (Addr×Obj)) (s:Shared) (σ:St) (H:Hp) (Q:VK),Inv X pins σ H s->t σ H Q ->
   wpAny (model X.prog X.w) X.A (eval a X.env) (fun v s₁=>wpAny (model X.prog X.w) X.A (eval b X.env) (fun u s₂=>wpAny (model X.prog X.w) X.A (compareOp op v u) (EP X pins σ Q) X.xe s₂) X.xe s₁) X.xe s
def qmu (b:Expr) {op:CmpOp} (h:op ≠ .In) (h2:op ≠ .NotIn):behindInMarks op b=false:=by
 have e1:(op==CmpOp.In)=false:=by cases op<;>first | rfl | exact absurd rfl h
 have e2:(op==CmpOp.NotIn)=false:=by cases op<;>first | rfl | exact absurd rfl h2
 cases b<;>simp [behindInMarks,e1,e2]
def tB (t:TE):TT:=fun σ H Q=>t σ H fun x H1=>∃c,x = .bl c/\Q c H1
def qkk {op:CmpOp} {t:TE} (h:PC X op a b t) (h1:behindInMarks op b=false:=by first | exact qmu _ (by decide) (by decide) | rfl):PT X (.Compare a [op] [b] pos) (tB t):=by
 intro pins s σ H Q I hw
 refine wpAny_isTrue_Compare1 (thn (h pins s σ H _ I hw) fun v s1 h1=>thn h1 fun u s2 h2=>thn h2 fun c s3 ⟨x,H1,I1,r1,q1⟩=>?_) h1
 obtain ⟨d,rfl,q⟩:=q1
 cases r1
 exact wpAny_truthy_bool ⟨H1,I1,q⟩
def qbw {e:Expr} {t:TE} (h:PE X e t) (he:∀whole,isTrue e X.env whole=(do let v <-whole;standAt e.pos;holding [v] (truthy v)):=by intro _;rfl):PT X e (tB t):=by
 intro pins s σ H Q I hw
 refine isTrue_plain (thn (h pins s σ H _ I hw) fun v s1 ⟨x,H1,I1,r1,q1⟩=>?_) (he _)
 obtain ⟨d,rfl,q⟩:=q1
 cases r1
 exact wpAny_truthy_bool ⟨H1,I1,q⟩
variable {tA tB':TT} {qbM:List Expr}
def qsW (t u:TT):TT:=fun σ H Q=>t σ H fun c H1=>if c=true then u σ H1 Q else Q false H1
def tOr (t u:TT):TT:=fun σ H Q=>t σ H fun c H1=>if c=true then Q true H1 else u σ H1 Q
def qsV (t:TT):TT:=fun σ H Q=>t σ H fun c H1=>Q (!c) H1
def qdV (ha:PT X a tA):PW X (.BoolOp .And [a] pos) tA:=by
 intro wh pins s σ H Q I h
 refine isTrue_and (thn (ha pins s σ H Q I h) fun c s1 e=>?_)
 cases c with
 | true=>exact isTrue_and_nil e
 | false=>exact e
def qeX (ha:PT X a tA):PW X (.BoolOp .Or [a] pos) tA:=by
 intro wh pins s σ H Q I h
 refine isTrue_or (thn (ha pins s σ H Q I h) fun c s1 e=>?_)
 cases c with
 | false=>exact isTrue_or_nil e
 | true=>exact e
def qfR (ha:PT X a tA) (hb:PW X (.BoolOp .And (b::qbM) pos) tB'):PW X (.BoolOp .And (a::b::qbM) pos) (qsW tA tB'):=by
 intro wh pins s σ H Q I h
 refine isTrue_and (thn (ha pins s σ H _ I h) fun c s1 ⟨H1,I1,q1⟩=>?_)
 cases c with
 | true=>exact hb wh pins s1 σ H1 Q I1 q1
 | false=>exact ⟨H1,I1,q1⟩
def qhE (ha:PT X a tA) (hb:PW X (.BoolOp .Or (b::qbM) pos) tB'):PW X (.BoolOp .Or (a::b::qbM) pos) (tOr tA tB'):=by
 intro wh pins s σ H Q I h
 refine isTrue_or (thn (ha pins s σ H _ I h) fun c s1 ⟨H1,I1,q1⟩=>?_)
 cases c with
 | true=>exact ⟨H1,I1,q1⟩
 | false=>exact hb wh pins s1 σ H1 Q I1 q1
def qcr (ha:PT X a tA):PT X (.UnaryOp .Not a pos) (qsV tA):=by
 intro pins s σ H Q I h
 exact isTrue_not (ha pins s σ H (fun c H1=>Q (!c) H1) I h)
def qqB (ta tb:TE):TE:=fun σ H Q=>ta σ H fun x H1=>∃c,x = .bl c/\if c=true then tb σ H1 Q else Q (.bl false) H1
def qtf (ta tb:TE):TE:=fun σ H Q=>ta σ H fun x H1=>∃c,x = .bl c/\if c=true then Q (.bl true) H1 else tb σ H1 Q
def qqq (ta:TE):TE:=fun σ H Q=>ta σ H fun x H1=>∃c,x = .bl c/\Q (.bl (!c)) H1
def qjS {op} {t:TE} (h:PE X a t):PE X (.BoolOp op [a] pos) t:=fun pins s σ H Q I hw=>BoolOp_one (h pins s σ H Q I hw)
def qlu (ha:PE X a ta) (hb:PE X (.BoolOp .And (b::qbM) pos) tb):PE X (.BoolOp .And (a::b::qbM) pos) (qqB ta tb):=by
 intro pins s σ H Q I h
 refine BoolOp_and (thn (ha pins s σ H _ I h) fun v s1 ⟨x,H1,I1,r1,q1⟩=>?_)
 obtain ⟨c,rfl,q1⟩:=q1
 cases r1
 refine wpAny_truthy_bool ?_
 cases c with
 | true=>exact hb pins s1 σ H1 Q I1 q1
 | false=>exact ⟨.bl false,H1,I1,rfl,q1⟩
def qrv (ha:PE X a ta):PE X (.UnaryOp .Not a pos) (qqq ta):=by
 intro pins s σ H Q I h
 refine UnaryOp_ (thn (ha pins s σ H _ I h) fun v s1 ⟨x,H1,I1,r1,q1⟩=>?_)
 obtain ⟨c,rfl,q1⟩:=q1
 cases r1
 exact not_of (wpAny_truthy_bool ⟨.bl (!c),H1,I1,rfl,q1⟩)
def tIf (t:TT) (ta tb:TE):TE:=fun σ H Q=>t σ H fun c H1=>if c=true then ta σ H1 Q else tb σ H1 Q
def qi2 {c:Expr} (hc:PT X c tA) (ha:PE X a ta) (hb:PE X b tb):PE X (.IfExp c a b pos) (tIf tA ta tb):=by
 intro pins s σ H Q I h
 refine wpAny_IfExp (thn (hc pins s σ H _ I h) fun d s1 ⟨H1,I1,q1⟩=>?_)
 cases d with
 | true=>exact ha pins s1 σ H1 Q I1 q1
 | false=>exact hb pins s1 σ H1 Q I1 q1
end
end L2
namespace L2
open PySem PySem.Spec PyProof.Rows
def SqL (K:PySem.W.Frag) (H:Hp) (a:Addr) (xs:List V):Prop :=
 Rd H a (.lst xs) \/
   ∃(o:Obj) (its:Array Value) (n:Nat),K.lookup a=some o/\o.cls = .type "list" /\ o.dict=none/\o.data = .seq its n/\its.size<=sizeLine/\qaV xs its.toList
def SqT (K:PySem.W.Frag) (H:Hp) (a:Addr) (xs:List V):Prop :=
 Rd H a (.tup xs) \/
   ∃(o:Obj) (its:Array Value) (n:Nat),K.lookup a=some o/\o.cls = .type "tuple" /\ o.data = .seq its n/\its.size<=sizeLine/\qaV xs its.toList
def qtn:Value->Option V
 | .none=>some .non
 | .bool b=>some (.bl b)
 | .int i _=>some (.int i)
 | .str x _=>some (.str x)
 | .bytes b _=>some (.byt b)
 | .float b _=>some (.flt b)
 | .ref a=>some (.ref a)
 | .type n=>some (.ty n)
 | _=>none
def qbg.abs {x:V} {u:Value} (r:qbg x u):qtn u=some x:=by
 cases x with
 | non=>cases r;rfl
 | bl _=>cases r;rfl
 | int _=>obtain ⟨t,rfl⟩:=r;rfl
 | str _=>obtain ⟨t,rfl⟩:=r;rfl
 | byt _=>obtain ⟨t,rfl⟩:=r;rfl
 | flt _=>obtain ⟨t,rfl⟩:=r;rfl
 | ref _=>cases r;rfl
 | ty _=>cases r;rfl
def qbg.inj {x y:V} {u:Value} (r:qbg x u) (q:qbg y u):x=y:=Option.some.inj (r.abs.symm.trans q.abs)
def qaV.inj:∀{xs ys:List V} {us:List Value},qaV xs us->qaV ys us->xs=ys
 | _,_,_,.nil,.nil=>rfl
 | _,_,_,.cons r t,.cons r' t'=>by rw [r.inj r',qaV.inj t t']
section
variable {X:Cx} {pins:List (Addr×Obj)} {σ:St} {H:Hp} {s:Shared} {a:Addr} {xs ys:List V}
def SqL.of {K:PySem.W.Frag} (h:H a=some (.lst xs)):SqL K H a xs := .inl (.inl h)
def SqT.of {K:PySem.W.Frag} (h:H a=some (.tup xs)):SqT K H a xs := .inl (.inl h)
def Inv.list (I:Inv X pins σ H s) (h:SqL X.K H a xs):∃its:List Value,qaV xs its/\PlainL s.heap a its.toArray/\xs.length<=sizeLine:=by
 rcases h with h | ⟨o,its,n,hk,hc,hd,hs,hz,r⟩
 . obtain ⟨z,its,n,r,e⟩:=h.ok I.hok
   exact ⟨its,r,⟨_,n,e,rfl,rfl,rfl⟩,z⟩
 . refine ⟨its.toList,r,⟨o,n,I.kIn a o hk,hc,hd,by simpa using hs⟩,?_⟩
   have e:=r.length
   simp only [ycn] at e
   omega
def Inv.tuple (I:Inv X pins σ H s) (h:SqT X.K H a xs):∃its:List Value,qaV xs its/\IsTup s.heap a its.toArray/\xs.length<=sizeLine:=by
 rcases h with h | ⟨o,its,n,hk,hc,hs,hz,r⟩
 . obtain ⟨z,its,r,p⟩:=h.ok I.hok
   exact ⟨its,r,p,z⟩
 . refine ⟨its.toList,r,⟨o,I.kIn a o hk,hc,n,by simpa using hs⟩,?_⟩
   have e:=r.length
   simp only [ycn] at e
   omega
def Inv.list_inj (I:Inv X pins σ H s) (h:SqL X.K H a xs) (h':SqL X.K H a ys):xs=ys:=by
 obtain ⟨its,r,⟨o,n,e,_,_,d⟩,_⟩:=I.list h
 obtain ⟨its',r',⟨o',n',e',_,_,d'⟩,_⟩:=I.list h'
 rw [e] at e';cases e'
 rw [d] at d'
 injection d' with d1 _
 have:its=its':=by simpa using congrArg Array.toList d1
 subst this
 exact r.inj r'
def Inv.tuple_inj (I:Inv X pins σ H s) (h:SqT X.K H a xs) (h':SqT X.K H a ys):xs=ys:=by
 obtain ⟨its,r,⟨o,e,_,n,d⟩,_⟩:=I.tuple h
 obtain ⟨its',r',⟨o',e',_,n',d'⟩,_⟩:=I.tuple h'
 rw [e] at e';cases e'
 rw [d] at d'
 injection d' with d1 _
 have:its=its':=by simpa using congrArg Array.toList d1
 subst this
 exact r.inj r'
end
abbrev Cx.wish (X:Cx) (E:Value->Shared->Prop):Cx:={ X with xe:=E }
abbrev Cx.nox (X:Cx):Cx:=X.wish fun _ _=>False
def Cx.Ok.wish {X:Cx} (ok:X.Ok) (E:Value->Shared->Prop):(X.wish E).Ok :=
 ⟨ok.mod,ok.kind,ok.glob,ok.blt,ok.above,ok.inj,ok.has,ok.cab,ok.hd,ok.frames,ok.stk,ok.exf,ok.bs,ok.bsz,ok.noex,ok.exfs,ok.funs,ok.frf⟩
def Cx.Ok.unwish {X:Cx} {E:Value->Shared->Prop} (ok:(X.wish E).Ok):X.Ok :=
 ⟨ok.mod,ok.kind,ok.glob,ok.blt,ok.above,ok.inj,ok.has,ok.cab,ok.hd,ok.frames,ok.stk,ok.exf,ok.bs,ok.bsz,ok.noex,ok.exfs,ok.funs,ok.frf⟩
section
variable {X:Cx} {pins:List (Addr×Obj)} {σ:St} {H:Hp} {s:Shared} {E:Value->Shared->Prop}
def Inv.wish (I:Inv X pins σ H s) (E:Value->Shared->Prop):Inv (X.wish E) pins σ H s:=⟨I.ok.wish E,I.os,I.bare,I.base,I.loc,I.cell,I.free,I.freeC,I.pin,I.hok,I.len⟩
def Inv.unwish (I:Inv (X.wish E) pins σ H s):Inv X pins σ H s:=⟨I.ok.unwish,I.os,I.bare,I.base,I.loc,I.cell,I.free,I.freeC,I.pin,I.hok,I.len⟩
def SP.unwish {D:qe7} {f:Flow} {s':Shared} (h:SP (X.wish E) pins D f s'):SP X pins D f s':=by
 cases f with
 | next=>obtain ⟨σ',H',I,q⟩:=h;exact ⟨σ',H',I.unwish,q⟩
 | brk=>obtain ⟨σ',H',I,q⟩:=h;exact ⟨σ',H',I.unwish,q⟩
 | cont=>obtain ⟨σ',H',I,q⟩:=h;exact ⟨σ',H',I.unwish,q⟩
 | ret u=>obtain ⟨v,σ',H',I,r,q⟩:=h;exact ⟨v,σ',H',I.unwish,r,q⟩
def PSs.nox {st:List Stmt} {t:TS} (h:PSs X.nox st t):PSs X st t:=fun pins s σ H D I hw =>
 wpAny_mono (h pins s σ H D (I.wish _) hw) (fun _ _ q=>q.unwish) fun _ _ z=>False.elim z
end
section
variable {X:Cx} {st:Stmt} {qbM:List Stmt} {t u:TS} {e:Expr} {te:TE} {pos:Pos}
def qjl:TS:=fun D σ H=>D.nx σ H
def qiX (t u:TS):TS:=fun D σ H=>t { D with nx:=u D } σ H
def qan:PSs X [] qjl:=fun _ _ σ H _ I h=>wpAny_execs_nil ⟨σ,H,I,h⟩
def qac (h1:PS X st t) (h2:PSs X qbM u):PSs X (st::qbM) (qiX t u):=by
 intro pins s σ H D I h
 refine wpAny_execs_cons (thn (h1 pins s σ H { D with nx:=u D } I h) fun f s1 q=>?_)
 cases f with
 | next =>
   obtain ⟨σ',H',I',q⟩:=q
   exact h2 pins s1 σ' H' D I' q
 | ret v=>exact q
 | brk=>exact q
 | cont=>exact q
def qae (h1:PS X st t):PSs X [st] t:=by
 intro pins s σ H D I h
 refine wpAny_execs_cons (thn (h1 pins s σ H D I h) fun f s1 q=>?_)
 cases f with
 | next=>exact wpAny_execs_nil q
 | ret v=>exact q
 | brk=>exact q
 | cont=>exact q
def Inv.quiet {pins:List (Addr×Obj)} {σ:St} {H:Hp} {s:Shared} (I:Inv X pins σ H s):interactive X.env=false:=by simp [interactive,I.ok.kind]
def qoh (te:TE):TS:=fun D σ H=>te σ H fun _ H1=>D.nx σ H1
def qdG (he:PE X e te) (hs:swapsWith e none pos.line X.env=pure false:=by rfl):PS X (.Expr e pos) (qoh te):=by
 intro pins s σ H D I h
 exact wpAny_Expr_any (thn (he pins s σ H _ I h) fun v s1 ⟨x,H1,I1,r1,q1⟩=>⟨σ,H1,I1,q1⟩) I.quiet hs
def qrS (te:TE):TS:=fun D σ H=>te σ H D.rt
def qal (he:PE X e te):PS X (.Return (some e) pos) (qrS te):=by
 intro pins s σ H D I h
 exact wpAny_Return_some (thn (he pins s σ H _ I h) fun v s1 ⟨x,H1,I1,r1,q1⟩=>⟨x,σ,H1,I1,r1,q1⟩)
def qr2:TS:=fun D _ H=>D.rt .non H
def qpT (c:TT) (t u:TS):TS:=fun D σ H=>c σ H fun b H1=>if b=true then t D σ H1 else u D σ H1
def qaF {c:Expr} {a b:List Stmt} {tc:TT} (hc:PT X c tc) (ha:PSs X a t) (hb:PSs X b u):PS X (.If c a b pos) (qpT tc t u):=by
 intro pins s σ H D I h
 refine wpAny_If (thn (hc pins s σ H _ I h) fun d s1 ⟨H1,I1,q1⟩=>?_)
 cases d with
 | true=>exact ha pins s1 σ H1 D I1 q1
 | false=>exact hb pins s1 σ H1 D I1 q1
def qnm:TS:=fun _ _ _=>False
def qco:PS X st qnm:=fun _ _ _ _ _ _ h=>h.elim
end
abbrev TG:=V->St->Hp->(St->Hp->Prop)->Prop
abbrev TGs:=List V->St->Hp->(St->Hp->Prop)->Prop
def PG (X:Cx) (target:Expr) (t:TG):Prop :=
 ∀(pins:List (Addr×Obj)) (s:Shared) (σ:St) (H:Hp) (v:V) (u:Value) (Q:St->Hp->Prop),Inv X pins σ H s->qbg v u->t v σ H Q ->
   wpAny (model X.prog X.w) X.A (assign target X.env u) (fun _ s'=>∃σ' H',Inv X pins σ' H' s'/\Q σ' H') X.xe s
def PGs (X:Cx) (ts:List Expr) (t:TGs):Prop :=
 ∀(pins:List (Addr×Obj)) (s:Shared) (σ:St) (H:Hp) (vs:List V) (us:List Value) (Q:St->Hp->Prop),Inv X pins σ H s->qaV vs us->t vs σ H Q ->
   wpAny (model X.prog X.w) X.A (assignInOrder ((assignEach ts X.env).map (·.2)) us) (fun _ s'=>∃σ' H',Inv X pins σ' H' s'/\Q σ' H') X.xe s
abbrev qsc:=V->V->V->Hp->(Hp->Prop)->Prop
def qsZ (X:Cx) (t:qsc):Prop :=
 ∀(pins:List (Addr×Obj)) (s:Shared) (σ:St) (H:Hp) (o i v:V) (ov iv u:Value) (Q:Hp->Prop),Inv X pins σ H s->qbg o ov->qbg i iv->qbg v u->t o i v H Q ->
   wpAny (model X.prog X.w) X.A (setItem ov iv u) (fun _ s'=>∃H',Inv X pins σ H' s'/\Q H') X.xe s
section
variable {X:Cx} {pos:Pos}
def qel (i:Nat):TG:=fun v σ H Q=>Q (σ.set i (some v)) H
def qaw {i:Nat} {x:Str} (hN:X.N.Nodup) (hi:X.N[i]?=some x) (hx:Loc X.env.scope x) (hf:X.fn x=true\/X.env.scope.names.lookup x=some .local:=by first | exact .inl rfl | exact .inr rfl | assumption):PG X (.Name x pos) (qel i):=by
 intro pins s σ H v u Q I r h
 exact wpAny_assign_Name (qcU I hN hi hx r (fun s' I'=>⟨_,H,I',h⟩) hf)
def qrQ:TGs:=fun vs σ H Q=>vs=[]/\Q σ H
def qm1 (t:TG) (u:TGs):TGs:=fun vs σ H Q=>∃v r,vs=v::r/\t v σ H fun σ' H'=>u r σ' H' Q
def qoo:PGs X [] qrQ:=by
 intro pins s σ H vs us Q I r h
 obtain ⟨e,h⟩:=h
 subst e
 cases r
 exact assignInOrder_nil ⟨σ,H,I,h⟩
def qiH {e:Expr} {es:List Expr} {t:TG} {u:TGs} (h1:PG X e t) (h2:PGs X es u)
   (hs:(assignEach (e::es) X.env).map (·.2)=assign e X.env::(assignEach es X.env).map (·.2):=by rfl):PGs X (e::es) (qm1 t u):=by
 intro pins s σ H vs us Q I r h
 obtain ⟨v,vr,e1,h⟩:=h
 subst e1
 cases r with
 | cons r rr =>
   rw [hs]
   refine assignInOrder_cons (thn (h1 pins s σ H _ _ _ I r h) fun _ s1 ⟨σ1,H1,I1,q1⟩=>?_)
   exact h2 pins s1 σ1 H1 _ _ Q I1 rr q1
def qr6 (K:PySem.W.Frag) (n:Nat) (t:TGs):TG:=fun v σ H Q=>∃a xs,v = .ref a/\SqT K H a xs/\xs.length=n/\t xs σ H Q
def qqR {es:List Expr} {k:Nat} {t:TGs} {n:Nat} (hc:X.calm=true) (h:PGs X es t)
   (hn:(assignEach es X.env).length=n:=by rfl) (hst:(assignEach es X.env).findIdx? (·.1)=none:=by rfl):PG X (.Tuple es k pos) (qr6 X.K n t):=by
 intro pins s σ H v u Q I r hw
 obtain ⟨a,xs,e1,hq,hl,hw⟩:=hw
 subst e1
 cases r
 obtain ⟨its,rv,ht,hz⟩:=I.tuple hq
 refine assign_Tuple_tuple (I.ok.hd hc) ht (by simp [hn,<-hl,rv.length]) hst fun h' hx=>?_
 have I1:Inv X pins σ H { s with heap:=h' }:=I.kept (t':=s.toks) fun b o e=>hx b o (ydh (ydf e)) e
 exact h pins _ σ H xs _ Q I1 (by simpa using rv) hw
def qsJ (to ti:TE) (t:qsc):TG:=fun v σ H Q=>to σ H fun o H1=>ti σ H1 fun i H2=>t o i v H2 fun H3=>Q σ H3
def qq5 {o i:Expr} {to ti:TE} {t:qsc} (ho:PE X o to) (hi:PE X i ti) (hs:qsZ X t)
   (ha:∀v,assign (.Subscript o i pos) X.env v=(do
     let ov <-holding [v] (eval o X.env)
     let iv <-holding [v,ov] (eval i X.env)
     standAt pos
     holding [v,ov,iv] (setItem ov iv v)
     release [v,ov,iv] []):=by intro _;rfl):PG X (.Subscript o i pos) (qsJ to ti t):=by
 intro pins s σ H v u Q I r h
 rw [ha]
 refine wpAny_bind (wpAny_holding (thn (ho pins s σ H _ I h) fun ov s1 ⟨x,H1,I1,r1,q1⟩=>?_))
 refine wpAny_bind (wpAny_holding (thn (hi pins s1 σ H1 _ I1 q1) fun iv s2 ⟨y,H2,I2,r2,q2⟩=>?_))
 refine wpAny_bind (wpAny_standAt (wpAny_bind (wpAny_holding (thn (hs pins s2 σ H2 x y v ov iv u _ I2 r1 r2 r q2) fun _ s3 ⟨H3,I3,q3⟩=>?_))))
 exact wpAny_release ⟨σ,H3,I3,q3⟩
def qnK (te:TE) (g:TG):TS:=fun D σ H=>te σ H fun x H1=>g x σ H1 D.nx
def qqF {tg e:Expr} {te:TE} {g:TG} (he:PE X e te) (hg:PG X tg g) (hs:swapsWithSole [tg] e pos.line X.env=pure false:=by rfl) (hw:swappedStores [tg] e X.env=pure none:=by rfl)
   (h1:(assignEach [tg] X.env).map (·.2)=[assign tg X.env]:=by rfl):PS X (.Assign [tg] e pos) (qnK te g):=by
 intro pins s σ H D I h
 refine wpAny_Assign_stores (thn (he pins s σ H _ I h) fun v s1 ⟨x,H1,I1,r1,q1⟩=>?_) hs hw
 rw [h1]
 exact thn (hg pins s1 σ H1 x v _ I1 r1 q1) fun _ s2 q=>q
def qay {i:Nat} {x:Str} {e:Expr} {te:TE} {pos':Pos} (hN:X.N.Nodup) (hi:X.N[i]?=some x) (hx:Loc X.env.scope x) (he:PE X e te) (hs:swapsWith e (some (.Name x pos')) pos.line X.env=pure false:=by rfl) (hf:X.fn x=true\/X.env.scope.names.lookup x=some .local:=by first | exact .inl rfl | exact .inr rfl | assumption) :
   PS X (.Assign [.Name x pos'] e pos) (qnK te (qel i)):=by
 intro pins s σ H D I h
 refine wpAny_Assign_Name (thn (he pins s σ H _ I h) fun v s1 ⟨y,H1,I1,r1,q1⟩=>?_) hs
 exact qcU I1 hN hi hx r1 (fun s2 I2=>⟨_,H1,I2,q1⟩) hf
def qs7 (i j:Nat) (ta:TA):TS:=fun D σ H=>ta σ H fun vs H1=>∃v w,vs=[v,w]/\D.nx ((σ.set i (some v)).set j (some w)) H1
end
section
variable {X:Cx} {pos:Pos}
def qnD (c:TT) (tb:TS):TS:=fun D σ H=>∃W:Nat->St->Hp->Prop,(∃m,W m σ H)/\∀m σ H,W m σ H ->
 c σ H fun b H1=>if b=true then ∃N:St->Hp->Prop,(∀σ' H',N σ' H'->∃m',m'<m/\W m' σ' H')/\tb { D with nx:=N,ct:=N,bk:=D.nx } σ H1 else D.nx σ H1
end
structure It where
 go:Nat->Hp->Prop
 yld:Nat->Hp->V->Hp->Prop
 stop:Nat->Hp->Prop
def qhL (X:Cx) (pins:List (Addr×Obj)) (H:Hp) (b:Addr):Prop :=
 H b=none/\b≠X.env.locals/\b∉X.fs/\(b∈X.ex\/X.s₀.heap.objs.size<=b)/\(∀x c,X.env.cells.lookup x=some c->c≠b)/\∀p∈X.pn++pins,p.1≠b
def Inv.fpOk {X:Cx} {pins:List (Addr×Obj)} {σ:St} {H H':Hp} {s:Shared} {b:Addr} (I:Inv X pins σ H s) (hb:s.heap.objs.size<=b) (hn:H' b=none):qhL X pins H' b:=by
 refine ⟨hn,ydk (yae I.lt hb),I.nofs hb,.inr (ycf I.sz hb),fun x c e z=>?_,fun p hp z=>?_⟩
 . obtain ⟨v,q⟩:=I.cell x c e
   exact absurd (yae q.lt (by rw [z];exact hb)) (ydz _)
 . exact absurd (yae (ydf (I.pin p hp).1) (by rw [z];exact hb)) (ydz _)
structure qpN (P:Program) (w:World) (K:PySem.W.Frag) (tg:Expr) (J:It) (fp:List Addr) (it:Addr) (tn:Nat->Heap->Prop):Prop where
 mem:it∈fp
 obj:∀i h,tn i h->∀b∈fp,∃o,h.get? b=some o/\∀v,o.data ≠ .cell v
 keep:∀i h h',tn i h->(∀b∈fp,∀o,h.get? b=some o->h'.get? b=some o)->tn i h'
 item:∀(X:Cx),X.prog=P->X.w=w->X.K=K->X.calm=true->∀(i:Nat) (pins:List (Addr×Obj)) (s:Shared) (σ:St) (H:Hp) (E:Value->Shared->Prop),Inv X pins σ H s->(∀b∈fp,qhL X pins H b)->tn i s.heap->J.go i H ->
   wpAny (model P w) X.A (pyNext (.ref it)) (fun r s1=>∃u,r=some u /\
     wpAny (model P w) X.A (letOwnedTupleGo tg (.ref it) u) (fun _ s2=>∃x H',Inv X pins σ H' s2/\qbg x u/\J.yld i H x H'/\tn (i+1) s2.heap/\∀b∈fp,H' b=none) E s1) E s
 done:∀(X:Cx),X.prog=P->X.w=w->X.K=K->X.calm=true->∀(i:Nat) (pins:List (Addr×Obj)) (s:Shared) (σ:St) (H:Hp) (E:Value->Shared->Prop),Inv X pins σ H s->(∀b∈fp,qhL X pins H b)->tn i s.heap->J.stop i H ->
   wpAny (model P w) X.A (pyNext (.ref it)) (fun r s1=>r=none/\Inv X pins σ H s1) E s
 self:∀(A:Around) (i:Nat) (s:Shared) (Q:Value->Shared->Prop) (E:Value->Shared->Prop),tn i s.heap->Q (.ref it) s->wpAny (model P w) A (pyIter (.ref it)) Q E s
abbrev TI:=St->Hp->(It->Hp->Prop)->Prop
def PIE (X:Cx) (pins:List (Addr×Obj)) (σ:St) (tg:Expr) (R:It->Hp->Prop) (itv:Value) (s2:Shared):Prop :=
 ∃(it:Addr) (fp:List Addr) (tn:Nat->Heap->Prop) (J:It) (H':Hp),itv = .ref it/\Inv X pins σ H' s2/\qpN X.prog X.w X.K tg J fp it tn/\tn 0 s2.heap/\(∀b∈fp,qhL X pins H' b)/\R J H'
def PI (X:Cx) (tg iter:Expr) (wi:TI):Prop :=
 ∀(pins:List (Addr×Obj)) (s:Shared) (σ:St) (H:Hp) (R:It->Hp->Prop),Inv X pins σ H s->wi σ H R ->
   wpAny (model X.prog X.w) X.A (eval iter X.env) (fun v s1=>wpAny (model X.prog X.w) X.A (pyIter v) (PIE X pins σ tg R) X.xe s1) X.xe s
def qoP {M:Model} {A:Around} {E:Value->Shared->Prop} {s:Shared} {tg:Expr} {it:Addr} {u:Value} {o:Obj} {n:String} {vs:Array Value} {Q:Unit->Shared->Prop} (ho:s.heap.get? it=some o) (hc:o.cls = .type n) (hd:o.data = .fields vs)
   (hn:["enumerate", "zip", "dict_itemiterator", "dict_reverseitemiterator", "odict_iterator", "itertools.zip_longest", "itertools.pairwise"].contains n=false) (hQ:Q () s):wpAny M A (letOwnedTupleGo tg (.ref it) u) Q E s:=by
 unfold letOwnedTupleGo
 cases tg<;>first
   | exact wpAny_pure hQ
   | (cases u<;>first
       | exact wpAny_pure hQ
       | (refine wpAny_bind (wpAny_load ho ?_)
          rw [hc,hd]
          show wpAny M A (if (["enumerate", "zip", "dict_itemiterator", "dict_reverseitemiterator", "odict_iterator", "itertools.zip_longest", "itertools.pairwise"].contains n&&vs[0]?==some (rawInt _))=true then _ else _) Q E s
          rw [if_neg (by intro h;rw [hn,yee] at h;cases h)]
          exact wpAny_pure hQ))
def Itl (K:PySem.W.Frag) (a:Addr):It :=
 ⟨fun i H=>∃xs x,SqL K H a xs/\xs[i]?=some x,fun i H x H'=>H'=H/\∀xs,SqL K H a xs->xs[i]?=some x,fun i H=>∃xs,SqL K H a xs/\xs.length<=i⟩
def Itt (K:PySem.W.Frag) (a:Addr):It :=
 ⟨fun i H=>∃xs x,SqT K H a xs/\xs[i]?=some x,fun i H x H'=>H'=H/\∀xs,SqT K H a xs->xs[i]?=some x,fun i H=>∃xs,SqT K H a xs/\xs.length<=i⟩
def Itr (lo:Int) (n:Nat):It:=⟨fun i _=>i<n,fun i H x H'=>H'=H/\x = .int (lo+i),fun i _=>n<=i⟩
def qj8 {P:Program} {w:World} {K:PySem.W.Frag} {tg:Expr} (a it:Addr):qpN P w K tg (Itl K a) [it] it (fun i h=>h.IsListIter it a i) where
 mem:=by simp
 obj:=fun i h st b hb=>by
   have e:b=it:=by simpa using hb
   subst e
   obtain ⟨o,e,c,d⟩:=st
   exact ⟨o,e,fun v z=>by rw [d] at z;cases z⟩
 keep:=fun i h h' st k=>st.at fun o e=>k it (by simp) o e
 item:=by
   intro X hP hw hK hc i pins s σ H E I hf st hg
   subst hP hw hK
   obtain ⟨xs,x,hq,hx⟩:=hg
   obtain ⟨its,rv,p,hz⟩:=I.list hq
   obtain ⟨u,hu,ru⟩:=rv.get hx
   obtain ⟨f0,f1,f2,f3,f4,f5⟩:=hf it (by simp)
   refine wpAny_pyNext_list_item st p.isList (x:=u) (by simpa using hu) fun h' st' sb=>?_
   have I1:Inv X pins σ H { s with heap:=h' }:=I.turned (t':=s.toks) (fun b o hb e=>(sb.2 b hb).trans e) f0 f1 f3 f4 f5
   obtain ⟨o,e,c,d⟩:=id st'
   exact ⟨u,rfl,qoP (s:={ s with heap:=h' }) e c d (by decide) ⟨x,H,I1,ru,⟨rfl,fun ys hy=>by rw [I.list_inj hy hq];exact hx⟩,st',fun b hb=>(hf b hb).1⟩⟩
 done:=by
   intro X hP hw hK hc i pins s σ H E I hf st hg
   subst hP hw hK
   obtain ⟨xs,hq,hx⟩:=hg
   obtain ⟨its,rv,p,hz⟩:=I.list hq
   obtain ⟨f0,f1,f2,f3,f4,f5⟩:=hf it (by simp)
   have hl:=rv.length
   exact wpAny_pyNext_list_end (I.ok.hd hc) st p.isList (by simp;omega) fun h' eb=>⟨rfl,I.turned (t':=s.toks) (fun b o hb e=>eb b o hb e) f0 f1 f3 f4 f5⟩
 self:=fun _ _ _ _ _ st h=>wpAny_pyIter_listiter st h
def qjz {P:Program} {w:World} {K:PySem.W.Frag} {tg:Expr} (it:Addr) (lo:Int) (n:Nat):qpN P w K tg (Itr lo n) [it] it (fun i h=>IsRangeIter h it (lo+(i:Nat)*1) ((n:Int)-(i:Nat)) 1) where
 mem:=by simp
 obj:=fun i h st b hb=>by
   have e:b=it:=by simpa using hb
   subst e
   exact ⟨_,st,fun v z=>by
     have z':Data.fields _=Data.cell v:=z
     cases z'⟩
 keep:=fun i h h' st k=>k it (by simp) _ st
 item:=by
   intro X hP hw hK hc i pins s σ H E I hf st hg
   subst hP hw hK
   obtain ⟨f0,f1,f2,f3,f4,f5⟩:=hf it (by simp)
   have W:=Walks.range (prog:=X.prog) (w:=X.w) (I.ok.hd hc) it lo 1 n
   refine W.item i s _ _ hg st fun v h' tk hv st' kk=>?_
   obtain ⟨t,rfl⟩:=hv
   have I1:Inv X pins σ H { s with heap:=h',toks:=tk }:=I.turned (fun b o hb e=>kk b o (by simpa using hb) e) f0 f1 f3 f4 f5
   refine ⟨_,rfl,qoP (s:={ s with heap:=h',toks:=tk }) (n := "range_iterator") st' rfl rfl (by decide) ⟨.int (lo+i),H,I1,⟨t,?_⟩,⟨rfl,rfl⟩,st',fun b hb=>(hf b hb).1⟩⟩
   rw [Int.mul_one]
 done:=by
   intro X hP hw hK hc i pins s σ H E I hf st hg
   subst hP hw hK
   obtain ⟨f0,f1,f2,f3,f4,f5⟩:=hf it (by simp)
   exact wpAny_pyNext_range_end (I.ok.hd hc) st (by have:n<=i:=hg;omega) fun h' eb=>⟨rfl,I.turned (t':=s.toks) (fun b o hb e=>eb b o hb e) f0 f1 f3 f4 f5⟩
 self:=fun _ _ _ _ _ st h=>wpAny_pyIter_rangeiter st h
end L2
namespace L2
open PySem PySem.Spec PyProof.Rows
section
variable {X:Cx} {tg:Expr}
def qoj (K:PySem.W.Frag) (tl:TE):TI:=fun σ H R=>tl σ H fun x H1=>∃a,x = .ref a/\(∃xs,SqL K H1 a xs)/\R (Itl K a) H1
def qtb (K:PySem.W.Frag) (tl:TE):TI:=fun σ H R=>tl σ H fun x H1=>∃a,x = .ref a/\(∃xs,SqT K H1 a xs)/\R (Itt K a) H1
def qa3 {l:Expr} {tl:TE} (hl:PE X l tl):PI X tg l (qoj X.K tl):=by
 intro pins s σ H R I h
 refine thn (hl pins s σ H _ I h) fun v s1 ⟨x,H1,I1,r1,q1⟩=>?_
 obtain ⟨a,e,⟨xs,hq⟩,q⟩:=q1
 subst e
 cases r1
 obtain ⟨its,rv,p,hz⟩:=I1.list hq
 refine wpAny_pyIter_list p.isList ?_
 refine ⟨s1.heap.objs.size,[s1.heap.objs.size],_,_,H1,rfl,I1.kept (t':=s1.toks) fun b o e=>yde _ e,qj8 a _,⟨_,ydd _ rfl,rfl,rfl⟩,fun b hb=>?_,q⟩
 have e:b=s1.heap.objs.size:=by simpa using hb
 subst e
 exact I1.fpOk (yax _) (I1.hok.fresh (yax _))
def qm7 {pins:List (Addr×Obj)} {σ:St} {H:Hp} {s:Shared} {R:It->Hp->Prop} {E:Value->Shared->Prop} {lo hi:Int} {t u v:Tok} {tk:Nat} (I:Inv X pins σ H s) (h1:-(2^62)<=lo) (h2:lo<2^62) (h3:-(2^62)<=hi) (h4:hi<2^62)
   (q:R (Itr lo (hi-lo).toNat) H):wpAny (model X.prog X.w) X.A (pyIter (.ref s.heap.objs.size)) (PIE X pins σ tg R) E { s with heap:=s.heap.push { cls := .type "range",data := .fields #[.int lo t,.int hi u,.int 1 v] },toks:=tk }:=by
 refine wpAny_pyIter_range (IsRange.new ..) (small_one h1 h2 h3 h4) ?_
 have I1:Inv X pins σ H { s with heap:=s.heap.push { cls := .type "range",data := .fields #[.int lo t,.int hi u,.int 1 v] },toks:=tk }:=I.kept fun b o e=>yde _ e
 refine ⟨(s.heap.push { cls := .type "range",data := .fields #[.int lo t,.int hi u,.int 1 v] }).objs.size,[(s.heap.push { cls := .type "range",data := .fields #[.int lo t,.int hi u,.int 1 v] }).objs.size],_,_,H,rfl,
   I1.kept (t':=tk) fun b o e=>yde _ e,qjz _ lo (hi-lo).toNat,?_,fun b hb=>?_,q⟩
 . have e1:lo+((0:Nat):Int)*1=lo:=by simp
   have e2:(((hi-lo).toNat:Nat):Int)-((0:Nat):Int)=Builtin.Range.rangeSize lo hi 1:=by rw [rangeSize_one];split<;>omega
   show IsRangeIter _ _ (lo+((0:Nat):Int)*1) ((((hi-lo).toNat:Nat):Int)-((0:Nat):Int)) 1
   rw [e1,e2]
   exact ydd _ rfl
 . have e:b=(s.heap.push { cls := .type "range",data := .fields #[.int lo t,.int hi u,.int 1 v] }).objs.size:=by simpa using hb
   subst e
   exact I1.fpOk (yax _) (I1.hok.fresh (yax _))
def qpz (ta:TA):TI:=fun σ H R=>ta σ H fun vs H1=>∃j:Int,vs=[.int j]/\-(2^62)<=j/\j<2^62/\R (Itr 0 j.toNat) H1
def qrl (ta:TA):TI:=fun σ H R=>ta σ H fun vs H1=>∃i j:Int,vs=[.int i,.int j]/\(-(2^62)<=i/\i<2^62/\-(2^62)<=j/\j<2^62)/\R (Itr i (j-i).toNat) H1
def qaW {a:Expr} {ta:TA} {p pos:Pos} (hg:Gl X "range") (hm:X.mg "range" = none) (ha:PA X [a] ta) (hs:starEach [a] X.env=[(false,eval a X.env)]:=by rfl):PI X tg (.Call (.Name "range" p) [a] [] pos) (qpz ta):=by
 intro pins s σ H R I h
 refine Call_ (qhu I hg hm boot_range (PyProof.Rows.callWith_type1 (thn (ha pos pins s σ H _ I h) fun us s1 ⟨vs,H1,I1,r1,q1⟩=>?_) hs rfl))
 obtain ⟨j,e,q1,q2,q⟩:=q1
 subst e
 cases r1 with
 | cons r rr =>
   cases rr
   obtain ⟨t,rfl⟩:=r
   exact call_range_1 (qm7 I1 (by omega) (by omega) q1 q2 (by simpa using q))
def qnS (wi:TI) (g:TG) (tb:TS):TS:=fun D σ H=>wi σ H fun J H1=>∃W:Nat->Nat->St->Hp->Prop,(∃m,W 0 m σ H1)/\∀i m σ H,W i m σ H ->
 (J.stop i H/\D.nx σ H)\/(J.go i H/\∃N:St->Hp->Prop,(∀σ' H',N σ' H'->∃m',m'<m/\W (i+1) m' σ' H')/\∀x H',J.yld i H x H'->g x σ H' fun σ2 H2=>tb { D with nx:=N,ct:=N,bk:=D.nx } σ2 H2)
def qdy (fp:List Addr) (h:Heap):List (Addr×Obj):=fp.filterMap fun b=>(h.get? b).map fun o=>(b,o)
def qbA {fp:List Addr} {h:Heap} {b:Addr} {o:Obj} (hb:b∈fp) (e:h.get? b=some o):(b,o)∈qdy fp h:=ycx.mpr ⟨b,hb,by rw [e];rfl⟩
def qk9 {fp:List Addr} {h:Heap} {p:Addr×Obj} (hp:p∈qdy fp h):p.1∈fp/\h.get? p.1=some p.2:=by
 obtain ⟨b,hb,e⟩:=ycx.mp hp
 cases q:h.get? b with
 | none=>rw [q] at e;cases e
 | some o =>
   rw [q] at e
   have e':(b,o)=p:=Option.some.inj e
   subst e'
   exact ⟨hb,q⟩
def Inv.pinned {pins:List (Addr×Obj)} {σ:St} {H:Hp} {s:Shared} {fp:List Addr} (I:Inv X pins σ H s) (hf:∀b∈fp,qhL X pins H b) (ho:∀b∈fp,∃o,s.heap.get? b=some o/\∀v,o.data ≠ .cell v):Inv X (pins++qdy fp s.heap) σ H s :=
 I.pins_of fun p hp=>(yat.mp hp).elim (fun z=>I.pin p (yef _ z)) fun z=>by
   obtain ⟨hb,e⟩:=qk9 z
   obtain ⟨f0,f1,f2,_⟩:=hf p.1 hb
   obtain ⟨o,e',d⟩:=ho p.1 hb
   rw [e] at e';cases e'
   exact ⟨e,f0,f1,f2,d⟩
def Inv.unpinned {pins pl:List (Addr×Obj)} {σ:St} {H:Hp} {s:Shared} (I:Inv X (pins++pl) σ H s):Inv X pins σ H s:=I.pins_of fun p hp=>I.pin p (yef _ (yas _ hp))
def qcb {iter:Expr} {body:List Stmt} {wi:TI} {g:TG} {tb:TS} {pos:Pos} (hp:PassesOwn (model X.prog X.w) X.A X.env X.xe) (hc:X.calm=true) (hi:PI X tg iter wi) (hg:PG X tg g) (hb:PSs X body tb)
   (hs:∀x,foldedSetIterable iter X.env x=pure x:=by intro _;rfl):PS X (.For tg iter body [] pos) (qnS wi g tb):=by
 intro pins s σ H D I h
 refine wpAny_For (thn (hi pins s σ H _ I h) fun v s1 h1=>thn h1 fun itv s2 h2=>?_) hs
 obtain ⟨it,fp,tn,J,H2,e,I2,T,st2,f2,W,⟨m0,w0⟩,turn⟩:=h2
 subst e
 -- what stays true of the iterator's objects through the loop
 have stat:∀{H':Hp},(∀b∈fp,H' b=none)->∀b∈fp,qhL X pins H' b:=fun hn b hb=>⟨hn b hb,(f2 b hb).2⟩
 refine codeAny_forLoop_any (fun n s'=>∃i σ' H',Inv X pins σ' H' s'/\tn i s'.heap/\(∀b∈fp,H' b=none)/\W i n σ' H') ?_ m0 ⟨0,σ,H2,I2,st2,fun b hb=>(f2 b hb).1,w0⟩
 rintro n s3 ⟨i,σ3,H3,I3,st3,fr3,w3⟩
 rcases turn i n σ3 H3 w3 with ⟨stop,qn⟩ | ⟨go,N,hN,step⟩
 . refine wpAny_passesOwn hp (thn (T.done X rfl rfl rfl hc i pins s3 σ3 H3 X.xe I3 (stat fr3) st3 stop) fun r s4 ⟨hr,I4⟩=>?_)
   subst hr
   exact wpAny_execs_nil ⟨σ3,H3,I4,qn⟩
 . refine wpAny_passesOwn hp (thn (T.item X rfl rfl rfl hc i pins s3 σ3 H3 X.xe I3 (stat fr3) st3 go) fun r s4 ⟨u,hr,h4⟩=>?_)
   subst hr
   refine wpAny_passesOwn hp (thn h4 fun _ s5 ⟨x,H5,I5,r5,y5,st5,fr5⟩=>?_)
   have I5':=I5.pinned (stat fr5) (T.obj _ _ st5)
   refine wpAny_passesOwn hp (thn (hg _ s5 σ3 H5 x u _ I5' r5 (step x H5 y5)) fun _ s6 ⟨σ6,H6,I6,q6⟩=>?_)
   refine wpAny_passesOwn hp (thn (hb _ s6 σ6 H6 _ I6 q6) fun f s7 q7=>?_)
   have again:∀{σ7:St} {H7:Hp},Inv X (pins++qdy fp s5.heap) σ7 H7 s7->N σ7 H7->∃m,m<n/\∃i σ' H',Inv X pins σ' H' s7/\tn i s7.heap/\(∀b∈fp,H' b=none)/\W i m σ' H':=fun {σ7 H7} I7 n7=>by
     obtain ⟨m',hm,w7⟩:=hN σ7 H7 n7
     refine ⟨m',hm,i+1,σ7,H7,I7.unpinned,T.keep _ _ _ st5 fun b hb o e=>(I7.pin (b,o) (yef _ (yef _ (qbA hb e)))).1,fun b hb=>?_,w7⟩
     obtain ⟨o,e,d⟩:=T.obj _ _ st5 b hb
     exact (I7.pin (b,o) (yef _ (yef _ (qbA hb e)))).2.1
   cases f with
   | next=>obtain ⟨σ7,H7,I7,n7⟩:=q7;exact again I7 n7
   | cont=>obtain ⟨σ7,H7,I7,n7⟩:=q7;exact again I7 n7
   | brk=>obtain ⟨σ7,H7,I7,q7⟩:=q7;exact ⟨σ7,H7,I7.unpinned,q7⟩
   | ret v=>obtain ⟨x7,σ7,H7,I7,r7,q7⟩:=q7;exact ⟨x7,σ7,H7,I7.unpinned,r7,q7⟩
end
def qm6 {K:PySem.W.Frag} {a:Addr} {xs:List V} {g:TG} {tb:TS} {D:qe7} {σ:St} {H:Hp} (Pv:Nat->St->Hp->Prop) (h0:Pv 0 σ H) (hl:∀i σ H,i<=xs.length->Pv i σ H->SqL K H a xs)
   (hs:∀i x σ H,xs[i]?=some x->Pv i σ H->g x σ H fun σ2 H2=>tb { D with nx:=Pv (i+1),ct:=Pv (i+1),bk:=D.nx } σ2 H2) (hd:∀σ H,Pv xs.length σ H->D.nx σ H) :
   ∃W:Nat->Nat->St->Hp->Prop,(∃m,W 0 m σ H)/\∀i m σ H,W i m σ H ->
     ((Itl K a).stop i H/\D.nx σ H)\/((Itl K a).go i H/\∃N:St->Hp->Prop,(∀σ' H',N σ' H'->∃m',m'<m/\W (i+1) m' σ' H')/\∀x H',(Itl K a).yld i H x H'->g x σ H' fun σ2 H2=>tb { D with nx:=N,ct:=N,bk:=D.nx } σ2 H2):=by
 refine ⟨fun i m σ H=>m=xs.length-i/\i<=xs.length/\Pv i σ H,⟨xs.length,by simp,ych _,h0⟩,?_⟩
 rintro i m σ H ⟨rfl,hi,p⟩
 have q:=hl i σ H hi p
 by_cases hlt:i<xs.length
 . refine .inr ⟨⟨xs,xs[i],q,by simp [hlt]⟩,Pv (i+1),fun σ' H' p'=>⟨xs.length-(i+1),by omega,rfl,hlt,p'⟩,fun x H' y=>?_⟩
   obtain ⟨e,y⟩:=y
   subst e
   exact hs i x σ _ (y xs q) p
 . have e:i=xs.length:=by omega
   subst e
   exact .inl ⟨⟨xs,q,yax _⟩,hd σ H p⟩
def qkc {lo:Int} {n:Nat} {g:TG} {tb:TS} {D:qe7} {σ:St} {H:Hp} (Pv:Nat->St->Hp->Prop) (h0:Pv 0 σ H)
   (hs:∀i σ H,i<n->Pv i σ H->g (.int (lo+i)) σ H fun σ2 H2=>tb { D with nx:=Pv (i+1),ct:=Pv (i+1),bk:=D.nx } σ2 H2) (hd:∀σ H,Pv n σ H->D.nx σ H) :
   ∃W:Nat->Nat->St->Hp->Prop,(∃m,W 0 m σ H)/\∀i m σ H,W i m σ H ->
     ((Itr lo n).stop i H/\D.nx σ H)\/((Itr lo n).go i H/\∃N:St->Hp->Prop,(∀σ' H',N σ' H'->∃m',m'<m/\W (i+1) m' σ' H')/\∀x H',(Itr lo n).yld i H x H'->g x σ H' fun σ2 H2=>tb { D with nx:=N,ct:=N,bk:=D.nx } σ2 H2):=by
 refine ⟨fun i m σ H=>m=n-i/\i<=n/\Pv i σ H,⟨n,by simp,ych _,h0⟩,?_⟩
 rintro i m σ H ⟨rfl,hi,p⟩
 by_cases hlt:i<n
 . refine .inr ⟨hlt,Pv (i+1),fun σ' H' p'=>⟨n-(i+1),by omega,rfl,hlt,p'⟩,fun x H' y=>?_⟩
   obtain ⟨e,y⟩:=y
   subst e y
   exact hs i σ _ hlt p
 . have e:i=n:=by omega
   subst e
   exact .inl ⟨yax _,hd σ H p⟩
end L2
namespace L2
open PySem PySem.Spec PyProof.Rows
abbrev R2:=V->V->Hp->VK->Prop
def OpR (X:Cx) (f:Value->Value->Sem Value) (r:R2):Prop :=
 ∀(pins:List (Addr×Obj)) (s:Shared) (σ:St) (H:Hp) (x y:V) (v u:Value) (Q:VK),Inv X pins σ H s->qbg x v->qbg y u->r x y H Q ->
   wpAny (model X.prog X.w) X.A (f v u) (EP X pins σ Q) X.xe s
def UnR (X:Cx) (f:Value->Sem Value) (r:V->Hp->VK->Prop):Prop :=
 ∀(pins:List (Addr×Obj)) (s:Shared) (σ:St) (H:Hp) (x:V) (v:Value) (Q:VK),Inv X pins σ H s->qbg x v->r x H Q ->
   wpAny (model X.prog X.w) X.A (f v) (EP X pins σ Q) X.xe s
def qcl (X:Cx) (f:Value) (r:List V->Hp->VK->Prop):Prop :=
 ∀(pins:List (Addr×Obj)) (s:Shared) (σ:St) (H:Hp) (xs:List V) (us:List Value) (Q:VK),Inv X pins σ H s->qaV xs us->r xs H Q ->
   wpAny (model X.prog X.w) X.A (call f us) (EP X pins σ Q) X.xe s
def tOp (r:R2) (ta tb:TE):TE:=fun σ H Q=>ta σ H fun x H1=>tb σ H1 fun y H2=>r x y H2 Q
def tUn (r:V->Hp->VK->Prop) (ta:TE):TE:=fun σ H Q=>ta σ H fun x H1=>r x H1 Q
def rI (C:Int->Int->Prop) (g:Int->Int->V):R2:=fun x y H Q=>∃i j,x = .int i/\y = .int j/\C i j/\Q (g i j) H
def rI0 (g:Int->Int->V):R2:=fun x y H Q=>∃i j,x = .int i/\y = .int j/\Q (g i j) H
def rU (g:Int->V):V->Hp->VK->Prop:=fun x H Q=>∃i,x = .int i/\Q (g i) H
section
variable {X:Cx} {a b c:Expr} {ta tb tc:TE} {pos:Pos}
def qrL (ha:PE X a ta) (hb:PE X b tb) {pins:List (Addr×Obj)} {s:Shared} {σ:St} {H:Hp} {R:V->V->Hp->Prop} (I:Inv X pins σ H s)
   (h:ta σ H fun x H1=>tb σ H1 fun y H2=>R x y H2) {Q:Value->Shared->Prop} {f:Value->Value->Sem Value}
   (hf:∀v u s2 x y H2,Inv X pins σ H2 s2->qbg x v->qbg y u->R x y H2->wpAny (model X.prog X.w) X.A (f v u) Q X.xe s2) :
   wpAny (model X.prog X.w) X.A (eval a X.env) (fun v s₁=>wpAny (model X.prog X.w) X.A (eval b X.env) (fun u s₂=>wpAny (model X.prog X.w) X.A (f v u) Q X.xe s₂) X.xe s₁) X.xe s:=by
 refine thn (ha pins s σ H _ I h) fun v s1 ⟨x,H1,I1,r1,q1⟩=>?_
 refine thn (hb pins s1 σ H1 _ I1 q1) fun u s2 ⟨y,H2,I2,r2,q2⟩=>?_
 exact hf v u s2 x y H2 I2 r1 r2 q2
def qar {op:Operator} {r:R2} (ho:OpR X (binaryOp op) r) (ha:PE X a ta) (hb:PE X b tb):PE X (.BinOp a op b pos) (tOp r ta tb):=by
 intro pins s σ H Q I h
 exact wpAny_BinOp (qrL ha hb I h fun v u s2 x y H2 I2 rx ry q=>ho pins s2 σ H2 x y v u Q I2 rx ry q)
def qoJ {op:UnaryOp} {r:V->Hp->VK->Prop} (ho:UnR X (unaryOp op) r) (ha:PE X a ta):PE X (.UnaryOp op a pos) (tUn r ta):=by
 intro pins s σ H Q I h
 exact UnaryOp_ (thn (ha pins s σ H _ I h) fun v s1 ⟨x,H1,I1,r1,q1⟩=>ho pins s1 σ H1 x v Q I1 r1 q1)
def opI {f:Value->Value->Sem Value} {C:Int->Int->Prop} {g:Int->Int->Int}
   (rule:∀(i j:Int) (t u:Tok) (s:Shared) (Q:Value->Shared->Prop) (E:Value->Shared->Prop),C i j->Q (.int (g i j) s.toks) { s with toks:=s.toks+1 }->wpAny (model X.prog X.w) X.A (f (.int i t) (.int j u)) Q E s) :
   OpR X f (rI C fun i j => .int (g i j)):=by
 intro pins s σ H x y v u Q I rx ry h
 obtain ⟨i,j,rfl,rfl,hc,q⟩:=h
 obtain ⟨t,rfl⟩:=rx
 obtain ⟨t',rfl⟩:=ry
 exact rule i j t t' s _ _ hc ⟨.int (g i j),H,I.tok _,⟨_,rfl⟩,q⟩
def qrD {f:Value->Value->Sem Value} {g:Int->Int->Int}
   (rule:∀(i j:Int) (t u:Tok) (s:Shared) (Q:Value->Shared->Prop) (E:Value->Shared->Prop),Q (.int (g i j) s.toks) { s with toks:=s.toks+1 }->wpAny (model X.prog X.w) X.A (f (.int i t) (.int j u)) Q E s) :
   OpR X f (rI0 fun i j => .int (g i j)):=by
 intro pins s σ H x y v u Q I rx ry h
 obtain ⟨i,j,rfl,rfl,q⟩:=h
 obtain ⟨t,rfl⟩:=rx
 obtain ⟨t',rfl⟩:=ry
 exact rule i j t t' s _ _ ⟨.int (g i j),H,I.tok _,⟨_,rfl⟩,q⟩
def qry {f:Value->Value->Sem Value} {g:Int->Int->Bool}
   (rule:∀(i j:Int) (t u:Tok) (s:Shared) (Q:Value->Shared->Prop) (E:Value->Shared->Prop),Q (.bool (g i j)) s->wpAny (model X.prog X.w) X.A (f (.int i t) (.int j u)) Q E s) :
   OpR X f (rI0 fun i j => .bl (g i j)):=by
 intro pins s σ H x y v u Q I rx ry h
 obtain ⟨i,j,rfl,rfl,q⟩:=h
 obtain ⟨t,rfl⟩:=rx
 obtain ⟨t',rfl⟩:=ry
 exact rule i j t t' s _ _ ⟨.bl (g i j),H,I,rfl,q⟩
def qsE (i j:Int):Prop:=0<=j/\j<=1000000/\i.natAbs<2^64
def qrB (i j:Int):Prop:=(-(2^64)<i/\i<2^64)\/(-(2^64)<j/\j<2^64)
def qrB.ok {i j:Int} (h:qrB i j):IntMulOk i j:=by
 rcases h with ⟨h1,h2⟩ | ⟨h1,h2⟩
 . exact .of_left (intBits_le_64 h1 h2)
 . exact .of_right (intBits_le_64 h1 h2)
def qi9 (k:Nat):(0:Int)<=2^k:=by
 rw [two_pow_cast]
 exact Int.natCast_nonneg _
def qb9:OpR X (binaryOp .Add) (rI0 fun i j => .int (i+j)):=qrD fun _ _ _ _ _ _ _ q=>add_int q
def qnp:OpR X (binaryOp .Sub) (rI0 fun i j => .int (i-j)):=qrD fun _ _ _ _ _ _ _ q=>sub_int q
def qc4:OpR X (binaryOp .Mult) (rI qrB fun i j => .int (i*j)):=opI fun _ _ _ _ _ _ _ hc q=>mul_int q hc.ok
def qbn:OpR X (binaryOp .Mod) (rI (fun _ j=>0<j) fun i j => .int (i%j)):=opI fun i j _ _ _ _ _ hc q=>by
 have h1:(0:Int)<j:=hc
 exact mod_int' (by omega) (by rw [Int.fmod_eq_emod_of_nonneg i (by omega)];exact q)
def qeg:OpR X (binaryOp .LShift) (rI qsE fun i j => .int (i*2^j.toNat)):=opI fun _ _ _ _ _ _ _ hc q=>lshift_int_small hc.1 hc.2.1 hc.2.2 q
def qnr:OpR X (binaryOp .RShift) (rI (fun _ j=>0<=j) fun i j => .int (i/2^j.toNat)):=opI fun i j _ _ _ _ _ hc q =>
 rshift_int hc (by rw [yeg i (qi9 _)];exact q)
def qf1:OpR X (binaryOp .BitAnd) (rI0 fun i j => .int (Builtin.bitAnd i j)):=qrD fun _ _ _ _ _ _ _ q=>and_int q
def qpg:OpR X (binaryOp .BitOr) (rI0 fun i j => .int (Builtin.bitOr i j)):=qrD fun _ _ _ _ _ _ _ q=>or_int q
def unI {f:Value->Sem Value} {g:Int->Int}
   (rule:∀(i:Int) (t:Tok) (s:Shared) (Q:Value->Shared->Prop) (E:Value->Shared->Prop),Q (.int (g i) s.toks) { s with toks:=s.toks+1 }->wpAny (model X.prog X.w) X.A (f (.int i t)) Q E s) :
   UnR X f (rU fun i => .int (g i)):=by
 intro pins s σ H x v Q I rx h
 obtain ⟨i,rfl,q⟩:=h
 obtain ⟨t,rfl⟩:=rx
 exact rule i t s _ _ ⟨.int (g i),H,I.tok _,⟨_,rfl⟩,q⟩
def qp1:UnR X (unaryOp .USub) (rU fun i => .int (-i)):=unI fun _ _ _ _ _ q=>neg_int q
def qnG:UnR X (unaryOp .Invert) (rU fun i => .int (Builtin.bitNot i)):=unI fun _ _ _ _ _ q=>invert_int q
end
def qmp:V->V->Bool
 | .non,.non=>true | .non,.int _=>true | .int _,.non=>true | .non,.bl _=>true | .bl _,.non=>true | .non,.str _=>true | .str _,.non=>true
 | .int _,.int _=>true | .bl _,.bl _=>true | .str _,.str _=>true | .byt _,.byt _=>true
 | .int _,.str _=>true | .str _,.int _=>true | .bl _,.str _=>true | .str _,.bl _=>true
 | _,_=>false
def rEq:R2:=fun x y H Q=>qmp x y=true/\Q (.bl (decide (x=y))) H
def rNe:R2:=fun x y H Q=>qmp x y=true/\Q (.bl (!decide (x=y))) H
def qlB {i j:Int}:decide (V.int i=V.int j)=(i==j):=by
 rw [yav]
 simp
def qnP {i j:Bool}:decide (V.bl i=V.bl j)=(i==j):=by
 rw [yav]
 simp
def qld {i j:Str}:decide (V.str i=V.str j)=(i==j):=by
 rw [yav]
 simp
def qkz {i j:Array UInt8}:decide (V.byt i=V.byt j)=(i.toList==j.toList):=by
 rw [yav]
 cases i
 cases j
 simp
section
variable {X:Cx} {a b c:Expr} {ta tb tc:TE} {pos:Pos}
def qaI {pins:List (Addr×Obj)} {σ:St} {H:Hp} {s:Shared} {Q:VK} {k k':Bool} (I:Inv X pins σ H s) (q:Q (.bl k) H) (e:k=k'):EP X pins σ Q (.bool k') s:=by
 subst e
 exact ⟨.bl k,H,I,rfl,q⟩
def qsA:OpR X (compareOp .Eq) rEq:=by
 intro pins s σ H x y v u Q I rx ry h
 obtain ⟨hs,q⟩:=h
 cases x with
 | non =>
   cases rx
   cases y with
   | non=>cases ry;exact PySem.EqNone.eq_none_none (qaI I q (by simp))
   | bl j=>cases ry;exact PySem.EqNone.eq_none_bool (qaI I q (by simp))
   | int j=>obtain ⟨t',rfl⟩:=ry;exact PySem.EqNone.eq_none_int (qaI I q (by simp))
   | str j=>obtain ⟨t',rfl⟩:=ry;exact PySem.EqNone.eq_none_str (qaI I q (by simp))
   | _=>exact absurd (show false=true from hs) yeh
 | bl i =>
   cases rx
   cases y with
   | non=>cases ry;exact PySem.EqNone.eq_bool_none (qaI I q (by simp))
   | bl j=>cases ry;exact eq_bool (qaI I q qnP)
   | str j=>obtain ⟨t',rfl⟩:=ry;exact PySem.EqMixed.eq_bool_str (qaI I q (by simp))
   | _=>exact absurd (show false=true from hs) yeh
 | int i =>
   obtain ⟨t,rfl⟩:=rx
   cases y with
   | non=>cases ry;exact PySem.EqNone.eq_int_none (qaI I q (by simp))
   | int j=>obtain ⟨t',rfl⟩:=ry;exact eq_int (qaI I q qlB)
   | str j=>obtain ⟨t',rfl⟩:=ry;exact PySem.EqMixed.eq_int_str (qaI I q (by simp))
   | _=>exact absurd (show false=true from hs) yeh
 | str i =>
   obtain ⟨t,rfl⟩:=rx
   cases y with
   | non=>cases ry;exact PySem.EqNone.eq_str_none (qaI I q (by simp))
   | bl j=>cases ry;exact PySem.EqMixed.eq_str_bool (qaI I q (by simp))
   | int j=>obtain ⟨t',rfl⟩:=ry;exact PySem.EqMixed.eq_str_int (qaI I q (by simp))
   | str j=>obtain ⟨t',rfl⟩:=ry;exact eq_str (qaI I q qld)
   | _=>exact absurd (show false=true from hs) yeh
 | byt i =>
   obtain ⟨t,rfl⟩:=rx
   cases y with
   | byt j=>obtain ⟨t',rfl⟩:=ry;exact PySem.W.eq_bytes (qaI I q qkz)
   | _=>exact absurd (show false=true from hs) yeh
 | _=>cases y<;>exact absurd (show false=true from hs) yeh
def qsB:OpR X (compareOp .NotEq) rNe:=by
 intro pins s σ H x y v u Q I rx ry h
 obtain ⟨hs,q⟩:=h
 cases x with
 | non =>
   cases rx
   cases y with
   | non=>cases ry;exact PySem.EqNone.ne_none_none (qaI I q (by simp))
   | bl j=>cases ry;exact PySem.EqNone.ne_none_bool (qaI I q (by simp))
   | int j=>obtain ⟨t',rfl⟩:=ry;exact PySem.EqNone.ne_none_int (qaI I q (by simp))
   | str j=>obtain ⟨t',rfl⟩:=ry;exact PySem.EqNone.ne_none_str (qaI I q (by simp))
   | _=>exact absurd (show false=true from hs) yeh
 | bl i =>
   cases rx
   cases y with
   | non=>cases ry;exact PySem.EqNone.ne_bool_none (qaI I q (by simp))
   | bl j=>cases ry;exact ne_bool (qaI I q (congrArg not qnP))
   | str j=>obtain ⟨t',rfl⟩:=ry;exact PySem.EqMixed.ne_bool_str (qaI I q (by simp))
   | _=>exact absurd (show false=true from hs) yeh
 | int i =>
   obtain ⟨t,rfl⟩:=rx
   cases y with
   | non=>cases ry;exact PySem.EqNone.ne_int_none (qaI I q (by simp))
   | int j=>obtain ⟨t',rfl⟩:=ry;exact ne_int (qaI I q (congrArg not qlB))
   | str j=>obtain ⟨t',rfl⟩:=ry;exact PySem.EqMixed.ne_int_str (qaI I q (by simp))
   | _=>exact absurd (show false=true from hs) yeh
 | str i =>
   obtain ⟨t,rfl⟩:=rx
   cases y with
   | non=>cases ry;exact PySem.EqNone.ne_str_none (qaI I q (by simp))
   | bl j=>cases ry;exact PySem.EqMixed.ne_str_bool (qaI I q (by simp))
   | int j=>obtain ⟨t',rfl⟩:=ry;exact PySem.EqMixed.ne_str_int (qaI I q (by simp))
   | str j=>obtain ⟨t',rfl⟩:=ry;exact ne_str (qaI I q (congrArg not qld))
   | _=>exact absurd (show false=true from hs) yeh
 | byt i =>
   obtain ⟨t,rfl⟩:=rx
   cases y with
   | byt j=>obtain ⟨t',rfl⟩:=ry;exact PySem.W.ne_bytes (qaI I q (congrArg not qkz))
   | _=>exact absurd (show false=true from hs) yeh
 | _=>cases y<;>exact absurd (show false=true from hs) yeh
def qlS:OpR X (compareOp .Lt) (rI0 fun i j => .bl (decide (i<j))):=qry fun _ _ _ _ _ _ _ q=>lt_int q
def qng:OpR X (compareOp .LtE) (rI0 fun i j => .bl (decide (i<=j))):=qry fun _ _ _ _ _ _ _ q=>le_int q
def qmW:OpR X (compareOp .Gt) (rI0 fun i j => .bl (decide (j<i))):=qry fun _ _ _ _ _ _ _ q=>gt_int q
def qoX:OpR X (compareOp .GtE) (rI0 fun i j => .bl (decide (j<=i))):=qry fun _ _ _ _ _ _ _ q=>ge_int q
def OpR.or {f:Value->Value->Sem Value} {r r':R2} (h:OpR X f r) (h':OpR X f r'):OpR X f (fun x y H Q=>r x y H Q\/r' x y H Q):=by
 intro pins s σ H x y v u Q I rx ry q
 rcases q with q | q
 . exact h pins s σ H x y v u Q I rx ry q
 . exact h' pins s σ H x y v u Q I rx ry q
def qaq (b:Expr) {op:CmpOp} (h:op ≠ .In:=by decide) (h2:op ≠ .NotIn:=by decide):behindInMarks op b=false:=by
 have e1:(op==CmpOp.In)=false:=by cases op<;>first | rfl | exact absurd rfl h
 have e2:(op==CmpOp.NotIn)=false:=by cases op<;>first | rfl | exact absurd rfl h2
 cases b<;>simp [behindInMarks,e1,e2]
def qe8 {op:CmpOp} {r:R2} (ho:OpR X (compareOp op) r) (ha:PE X a ta) (hb:PE X b tb) (hm:behindInMarks op b=false):PE X (.Compare a [op] [b] pos) (tOp r ta tb):=by
 intro pins s σ H Q I h
 exact wpAny_Compare1 (qrL ha hb I h fun v u s2 x y H2 I2 rx ry q=>ho pins s2 σ H2 x y v u Q I2 rx ry q) hm
def qrh (t:TE):TT:=fun σ H Q=>t σ H fun x H'=>∃k,x = .bl k/\Q k H'
def qam {op:CmpOp} {r:R2} (ho:OpR X (compareOp op) r) (ha:PE X a ta) (hb:PE X b tb) (hm:behindInMarks op b=false):PT X (.Compare a [op] [b] pos) (qrh (tOp r ta tb)):=by
 intro pins s σ H Q I h
 refine wpAny_isTrue_Compare1 (thn (ha pins s σ H _ I h) fun v s1 ⟨x,H1,I1,r1,q1⟩=>thn (hb pins s1 σ H1 _ I1 q1) fun u s2 ⟨y,H2,I2,r2,q2⟩ =>
   thn (ho pins s2 σ H2 x y v u _ I2 r1 r2 q2) fun c s3 ⟨z,H3,I3,r3,k,e,q3⟩=>?_) hm
 subst e
 cases r3
 exact wpAny_truthy_bool ⟨H3,I3,q3⟩
def qnT (r r':R2) (ta tb tc:TE):TE:=fun σ H Q=>ta σ H fun x H1=>tb σ H1 fun y H2=>r x y H2 fun z H3=>∃k,z = .bl k /\
 (if k=true then tc σ H3 fun w' H4=>r' y w' H4 Q else Q (.bl false) H3)
def qgm {op op':CmpOp} {r r':R2} (ho:OpR X (compareOp op) r) (ho':OpR X (compareOp op') r') (ha:PE X a ta) (hb:PE X b tb) (hc:PE X c tc)
   (hm:lastMarks [op,op'] [b,c]=false:=by with_unfolding_all rfl):PE X (.Compare a [op,op'] [b,c] pos) (qnT r r' ta tb tc):=by
 intro pins s σ H Q I h
 refine Compare_chain (thn (ha pins s σ H _ I h) fun v s1 ⟨x,H1,I1,r1,q1⟩=>chain_link (thn (hb pins s1 σ H1 _ I1 q1) fun u s2 ⟨y,H2,I2,r2,q2⟩ =>
   thn (ho pins s2 σ H2 x y v u _ I2 r1 r2 q2) fun d s3 ⟨z,H3,I3,r3,k,e,q3⟩=>?_)) hm
 subst e
 cases r3
 refine wpAny_truthy_bool ?_
 cases k with
 | false=>exact ite_ff ⟨.bl false,H3,I3,rfl,q3⟩
 | true=>exact ite_tt (chain_last (thn (hc pins s3 σ H3 _ I3 q3) fun w' s4 ⟨z',H4,I4,r4,q4⟩=>ho' pins s4 σ H4 y z' u w' Q I4 r2 r4 q4))
def qfM:(sizeLine:Nat)<2^63:=by rw [sizeLine_eq];decide
def qaG:OpR X (binaryOp .Add) (fun x y H Q=>∃i j,x = .str i/\y = .str j/\i.length+j.length<=sizeLine/\Q (.str (i++j)) H):=by
 intro pins s σ H x y v u Q I rx ry h
 obtain ⟨i,j,rfl,rfl,hz,q⟩:=h
 obtain ⟨t,rfl⟩:=rx
 obtain ⟨t',rfl⟩:=ry
 exact add_str (fun t' tk=>⟨.str (i++j),H,I.tok _,⟨_,rfl⟩,q⟩) hz
def qms (b:Expr):Prop:=∀o i,subscripted b false o i=operate [o,i] (getItem o i)
def qcm (ha:PE X a ta) (hb:PE X b tb) (hs:qms b) :
   PE X (.Subscript a b pos) (tOp (fun x y H Q=>∃z i c,x = .str z/\y = .int i/\0<=i/\i<2^63/\i<z.length/\z.cps[i.toNat]?=some c/\Q (.str ⟨#[c]⟩) H) ta tb):=by
 intro pins s σ H Q I h
 refine Subscript_ (qrL ha hb I h fun v u s2 x y H2 I2 rx ry q=>?_)
 obtain ⟨z,i,c,rfl,rfl,h0,h63,h1,hc,q⟩:=q
 obtain ⟨t,rfl⟩:=rx
 obtain ⟨t',rfl⟩:=ry
 have e:seqIndex? i z.length=some i.toNat:=PySem.StrLaws.seqIndex_nonneg h0 h1
 exact tail_any (typeIs_str s2 z t) slot_str_getitem.lookup (getItem_str (c:=c) (by
   have e1:decide (i < -(2^63:Int))=false:=decide_eq_false (by omega)
   have e2:decide (i≥2^63)=false:=decide_eq_false (by omega)
   rw [e1,e2]<;>rfl) (by rw [e];exact hc) ⟨.str ⟨#[c]⟩,H2,I2.tok _,⟨_,rfl⟩,q⟩) (hs _ _)
def qek {x:V} {us:List Value} (r:qaV [x] us):∃u,us=[u]/\qbg x u:=by
 cases r with
 | cons r1 r2=>cases r2;exact ⟨_,rfl,r1⟩
def qmi {x y:V} {us:List Value} (r:qaV [x,y] us):∃u w',us=[u,w']/\qbg x u/\qbg y w':=by
 cases r with
 | cons r1 r2 =>
   cases r2 with
   | cons r3 r4=>cases r4;exact ⟨_,_,rfl,r1,r3⟩
def qks:qcl X (.type "int") (fun xs H Q=>(∃i,xs=[.int i]/\Q (.int i) H)\/∃k,xs=[.bl k]/\Q (.int (if k then 1 else 0)) H):=by
 intro pins s σ H xs us Q I r h
 rcases h with ⟨i,rfl,q⟩ | ⟨k,rfl,q⟩
 . obtain ⟨u,rfl,t,rfl⟩:=qek r
   exact call_int_int ⟨.int i,H,I,⟨_,rfl⟩,q⟩
 . obtain ⟨u,rfl,r1⟩:=qek r
   cases r1
   exact call_int_bool ⟨.int (if k then 1 else 0),H,I.tok _,⟨_,rfl⟩,q⟩
def qht:qcl X (.type "str") (fun xs H Q=>∃i,xs=[.int i]/\i.natAbs.log2<1920/\Q (.str (toString i)) H):=by
 intro pins s σ H xs us Q I r h
 obtain ⟨i,rfl,hz,q⟩:=h
 obtain ⟨u,rfl,t,rfl⟩:=qek r
 exact PySem.P.str_of_int hz ⟨.str _,H,I.tok _,⟨_,rfl⟩,q⟩
end
end L2
namespace L2
open PySem PySem.Spec PyProof.Rows
structure qoz (h:Heap) (x dx C:Addr) (mA:Str->Option Value):Prop where
 obj:h.get? x=some (PySem.W.instObj C dx)
 ns:h.Ns1 dx mA
 ne:dx≠x
def qkn {h:Heap} {dx:Addr} {mA:Str->Option Value} (n:h.Ns1 dx mA):∃od,h.get? dx=some od/\∀name,PySem.W.lookIn name od=some (mA name):=by
 obtain ⟨o,es,ep,ho,hd,hk,_,hm⟩:=n
 refine ⟨o,ho,fun name=>?_⟩
 have e:=hm name
 unfold nsFind findBy at e
 rw [<-Array.find?_toList] at e
 unfold PySem.W.lookIn
 rw [hd]
 dsimp only
 split
 . rename_i y q
   rw [q] at e
   exact congrArg some e
 . rename_i q
   rw [q] at e
   have a:es.toList.any (·.refKey)=false:=by
     rw [yaz]
     intro y hy
     obtain ⟨z,t,hkey⟩:=hk y (yei.mp hy)
     simp [DictEntry.refKey,hkey]
   have a':¬es.toList.any (·.refKey)=true:=by rw [a];exact yeh
   rw [if_neg a']
   exact congrArg some e
def qoz.look {h:Heap} {x dx C:Addr} {mA:Str->Option Value} (I:qoz h x dx C mA):∃od,PySem.W.InstAt h x (PySem.W.instObj C dx) C (some od)/\∀name,PySem.W.lookIn name od=some (mA name) :=
 let ⟨od,ho,hl⟩:=qkn I.ns
 ⟨od,⟨I.obj,rfl,rfl,ho⟩,hl⟩
section
variable {prog:Program} {w:World} {A:Around} {E:Value->Shared->Prop} {s:Shared} {K:PySem.W.Frag} {x dx C f:Addr} {mA:Str->Option Value} {name:Str} {v:Value}
def qn8 {expr:Bool} {Q:Value->Shared->Prop} (X:K.In s.heap) (I:qoz s.heap x dx C mA) (hg:PySem.W.plainGet K C name=true) (hh:PySem.W.hasDictIn K C=true)
   (ha:PySem.W.findIn K (.ref C) name=some none) (hv:mA name=some v) (hv':PySem.W.handedIn v=true) (h:Q v { s with toks:=s.toks+1 }) :
   wpAny (model prog w) A (getAttr (.ref x) name expr) Q E s:=by
 obtain ⟨od,J,hl⟩:=I.look
 exact PySem.W.get_value X J (PySem.W.plainGet_of hg).1 (PySem.W.findObj_own hh ha rfl (by rw [hl,hv])) hv' h
def qlT {pl:Sem Bool} {Q:Value×List Value->Shared->Prop} (X:K.In s.heap) (I:qoz s.heap x dx C mA) (hg:PySem.W.plainGet K C name=true)
   (hf:PySem.W.findIn K (.ref C) name=some (some (.ref f))) (ht:PySem.W.isFn K (.ref f)=true) (hv:mA name=none) (h:Q (.ref f,[.ref x]) s) :
   wpAny (model prog w) A (getMethod (.ref x) name pl) Q E s:=by
 obtain ⟨od,J,hl⟩:=I.look
 exact PySem.W.method_fn X J (PySem.W.plainGet_of hg).1 (PySem.W.plainGet_of hg).2 hf (beq_iff_eq.mp ht) (by show (PySem.W.lookIn name od).map (·.isSome)=some false;rw [hl,hv];rfl) h
def qoD {ns:List Str} {Q:Unit->Shared->Prop} (X:K.In s.heap) (I:qoz s.heap x dx C mA)
   (hs:PySem.W.findIn K (.ref C) "__setattr__" = some (some (.builtin "object.__setattr__"))) (hp:PySem.W.plainOver K C=true) (ht:PySem.W.takerIn K C name=some none) (hh:PySem.W.hasDictIn K C=true)
   (hw:PySem.Within mA ns) (hsz:ns.length<=sizeLine)
   (h:∀h',qoz h' x dx C (fun y=>if y=name then some v else mA y)->Heap.SameBut dx s.heap h'->Q () { s with heap:=h',toks:=s.toks+2 }) :
   wpAny (model prog w) A (setAttr (.ref x) name v) Q E s:=by
 obtain ⟨od,J,hl⟩:=I.look
 refine PySem.W.set_plain X J hs (PySem.W.osa_open (s:={ s with toks:=s.toks+1 }) (r:=none) X J hp ht fun b=>?_)
 obtain ⟨cd,hc,hd'⟩:=PySem.W.any_some hh
 have hx:s.heap.get? x=some ⟨.ref C,some dx,.plain,#[]⟩:=I.obj
 refine wpAny_bind (wpAny_pure (wpAny_bind (wpAny_bind (wpAny_loadPart hx (wpAny_bind (PySem.W.Looks.here (s:={ s with toks:=s.toks+1 }) (PySem.W.looks_clsIn X hc) ?_))))))
 rw [hd']
 refine wpAny_pure (a:=some dx) (wpAny_bind (wpAny_pure (wpAny_bind ?_)))
 refine wpAny_nsSet1 (s:={ s with toks:=s.toks+1 }) I.ns fun h' hn2 hs2=>?_
 obtain ⟨oD,esD,epD,hoD,hdD,hcD⟩:=hn2.count (PySem.Within.cons name v hw)
 refine wpAny_bind (wpAny_lookBehind hoD (by rw [hdD];exact pastItsLine_dict (ycf hcD (by rw [yca];omega))) ?_)
 exact wpAny_pure (h _ ⟨(hs2.2 _ (Ne.symm I.ne)).trans I.obj,hn2,I.ne⟩ hs2)
def ql3 {R:Result->Shared->Prop} {vs:List Value} {kw:List (Str×Value)} (X:K.In s.heap) (hm:PySem.W.makesIn K C=true)
   (hi:PySem.W.findIn K (.ref C) "__init__" = some (some (.ref f))) (hf:PySem.W.typeIn K (.ref f)=some (.type "function"))
   (h:codeAny (model prog w) (A.under (.builtin "type.__call__" ⟨.ref C::vs,kw⟩)) (.call (.ref f) ⟨.ref (s.heap.objs.size+1)::vs,kw⟩) (PySem.W.InitBack (s.heap.objs.size+1) R)
     { s with heap:=(s.heap.push PySem.W.emptyDict).push (PySem.W.instObj C s.heap.objs.size) }) :
   codeAny (model prog w) A (.call (.ref C) ⟨vs,kw⟩) R s:=by
 obtain ⟨hh,g,d,t,os⟩:=s
 exact PySem.W.make_core (PySem.W.makes_of X hm) (PySem.W.looks_findIn X hi) (fun self=>PySem.W.bind_fn X self hf) (.inl rfl) h
end
def qgM (f:Str) (v:V):List (Str×V)->List (Str×V)
 | []=>[(f,v)]
 | (g,x)::r=>if g=f then (g,v)::r else (g,x)::qgM f v r
def qeT (f g:Str) (v:V):∀fs:List (Str×V),(qgM f v fs).lookup g=if g=f then some v else fs.lookup g
 | []=>by
   show List.lookup g [(f,v)]=_
   by_cases h:g=f
   . have hb:(g==f)=true:=beq_iff_eq.mpr h
     simp only [List.lookup,hb,if_pos h]
   . have hb:(g==f)=false:=beq_eq_false_iff_ne.mpr h
     simp only [List.lookup,hb,if_neg h]
 | (k,x)::r=>by
   have ih:=qeT f g v r
   rw [show qgM f v ((k,x)::r)=(if k=f then (k,v)::r else (k,x)::qgM f v r) from rfl]
   by_cases hk:k=f
   . rw [if_pos hk]
     by_cases h:g=k
     . have hb:(g==k)=true:=beq_iff_eq.mpr h
       simp only [List.lookup,hb,if_pos (h.trans hk)]
     . have hb:(g==k)=false:=beq_eq_false_iff_ne.mpr h
       simp only [List.lookup,hb,if_neg (fun e:g=f=>h (e.trans hk.symm))]
   . rw [if_neg hk]
     by_cases h:g=k
     . have hb:(g==k)=true:=beq_iff_eq.mpr h
       simp only [List.lookup,hb,if_neg (fun e:g=f=>hk (h.symm.trans e))]
     . have hb:(g==k)=false:=beq_eq_false_iff_ne.mpr h
       simp only [List.lookup,hb]
       exact ih
def qeZ (f:Str) (v:V):∀fs:List (Str×V),f∈(qgM f v fs).map (·.1)/\∀g,g∈fs.map (·.1)->g∈(qgM f v fs).map (·.1)
 | []=>⟨by simp [qgM],fun g h=>by simp at h⟩
 | (k,x)::r=>by
   obtain ⟨i1,i2⟩:=qeZ f v r
   rw [show qgM f v ((k,x)::r)=(if k=f then (k,v)::r else (k,x)::qgM f v r) from rfl]
   by_cases hk:k=f
   . rw [if_pos hk]
     subst hk
     exact ⟨by simp,fun g h=>by simpa using h⟩
   . rw [if_neg hk]
     refine ⟨?_,fun g h=>?_⟩
     . rw [ycw]
       exact ybe _ i1
     . rw [ycw] at h ⊢
       rcases ybd.mp h with e | e
       . exact ybd.mpr (.inl e)
       . exact ybe _ (i2 g e)
def qeL (f:Str) (v:V):∀fs:List (Str×V),(qgM f v fs).length<=fs.length+1
 | []=>by simp [qgM]
 | (k,x)::r=>by
   have ih:=qeL f v r
   rw [show qgM f v ((k,x)::r)=(if k=f then (k,v)::r else (k,x)::qgM f v r) from rfl]
   by_cases hk:k=f
   . rw [if_pos hk,yca,yca];omega
   . rw [if_neg hk,yca,yca];omega
def qhz.some_of {v:V} {o:Option Value} (r:qhz (some v) o):∃u,o=some u/\qbg v u:=by
 cases o with
 | none=>exact (show False from r).elim
 | some u=>exact ⟨u,rfl,r⟩
def qhz.none_of {o:Option Value} (r:qhz none o):o=none:=by
 cases o with
 | none=>rfl
 | some u=>exact (show False from r).elim
def qjY {v:V} {u:Value} (r:qbg v u):PySem.W.handedIn u=true:=by
 cases v with
 | non=>cases (show u=Value.none from r);rfl
 | bl b=>cases (show u=Value.bool b from r);rfl
 | int i=>obtain ⟨t,e⟩:=(show ∃t,u=Value.int i t from r);cases e;rfl
 | str x=>obtain ⟨t,e⟩:=(show ∃t,u=Value.str x t from r);cases e;rfl
 | byt b=>obtain ⟨t,e⟩:=(show ∃t,u=Value.bytes b t from r);cases e;rfl
 | flt b=>obtain ⟨t,e⟩:=(show ∃t,u=Value.float b t from r);cases e;rfl
 | ref a=>cases (show u=Value.ref a from r);rfl
 | ty n=>cases (show u=Value.type n from r);rfl
section
variable {P:Program} {w:World} {H H':Hp} {h h':Heap} {a C dx:Addr} {fs fs':List (Str×V)}
def qga (hok:HOk P w H h) (e:H a=some (.ins C dx fs)):∃mA,qoz h a dx C mA/\(∀f,qhz (fs.lookup f) (mA f))/\PySem.Within mA (fs.map (·.1))/\fs.length<=1000/\H dx=some (.own a):=by
 obtain ⟨d,z,ne,ob,mA,n,r,q⟩:=(show qbe P w H h a (.ins C dx fs) from hok a _ e)
 exact ⟨mA,⟨ob,n,ne⟩,r,q,z,d⟩
end
structure Cls (K:PySem.W.Frag) (C:Addr):Prop where
 pg:PySem.W.plainGet K C Str.empty=true
 hd:PySem.W.hasDictIn K C=true
 po:PySem.W.plainOver K C=true
 sa:PySem.W.findIn K (.ref C) "__setattr__" = some (some (.builtin "object.__setattr__"))
def Cls.get {K:PySem.W.Frag} {C:Addr} (c:Cls K C) (f:Str):PySem.W.plainGet K C f=true:=c.pg
def qdx (K:PySem.W.Frag) (C:Addr) (f:Str):Prop:=PySem.W.findIn K (.ref C) f=some none
def qdx.taker {K:PySem.W.Frag} {C:Addr} {f:Str} (n:qdx K C f):PySem.W.takerIn K C f=some none:=by
 unfold PySem.W.takerIn
 rw [show PySem.W.findIn K (.ref C) f=some none from n]
 rfl
structure Con (K:PySem.W.Frag) (C:Addr) (f:Str) (v:V) (u:Value):Prop where
 at_:PySem.W.findIn K (.ref C) f=some (some u)
 rel:qbg v u
 get:PySem.W.specialIn K u "__get__" = some none
 cp:PySem.W.copiedNames.contains f=false
structure qre (K:PySem.W.Frag) (C:Addr) (m:Str) (f:Addr):Prop where
 at_:PySem.W.findIn K (.ref C) m=some (some (.ref f))
 fn:PySem.W.isFn K (.ref f)=true
 kp:PySem.W.keepIn K (.ref f)=true
section
variable {X:Cx} {pins:List (Addr×Obj)} {σ:St} {H:Hp} {s:Shared} {a C dx:Addr} {fs:List (Str×V)} {f:Str} {v:V} {A:Around} {E:Value->Shared->Prop}
def qjs {b:Bool} {Q:Value->Shared->Prop} (I:Inv X pins σ H s) (e:H a=some (.ins C dx fs)) (c:Cls X.K C) (n:qdx X.K C f) (l:fs.lookup f=some v)
   (h:∀u s',Inv X pins σ H s'->qbg v u->Q u s'):wpAny (model X.prog X.w) A (getAttr (.ref a) f b) Q E s:=by
 obtain ⟨mA,O,r,_,_,_⟩:=qga I.hok e
 obtain ⟨u,hu,ru⟩:=qhz.some_of (v:=v) (o:=mA f) (by rw [<-l];exact r f)
 exact qn8 I.kIn O (c.get f) c.hd n hu (qjY ru) (h u _ (I.tok _) ru)
def qfQ {m:Str} {g:Addr} {pl:Sem Bool} {Q:Value×List Value->Shared->Prop} (I:Inv X pins σ H s) (e:H a=some (.ins C dx fs)) (c:Cls X.K C) (k:qre X.K C m g) (l:fs.lookup m=none)
   (h:Q (.ref g,[.ref a]) s):wpAny (model X.prog X.w) A (getMethod (.ref a) m pl) Q E s:=by
 obtain ⟨mA,O,r,_,_,_⟩:=qga I.hok e
 have hn:mA m=none:=qhz.none_of (by rw [<-l];exact r m)
 exact qlT I.kIn O (c.get m) k.at_ k.fn hn h
def qja {y:V} {u:Value} {Q:Unit->Shared->Prop} (I:Inv X pins σ H s) (e:H a=some (.ins C dx fs)) (c:Cls X.K C) (n:qdx X.K C f) (hl:fs.length<1000) (ry:qbg y u)
   (h:∀s',Inv X pins σ (upd H a (.ins C dx (qgM f y fs))) s'->Q () s'):wpAny (model X.prog X.w) A (setAttr (.ref a) f u) Q E s:=by
 obtain ⟨mA,O,r,wi,_,ho⟩:=qga I.hok e
 have hz:(fs.map (·.1)).length<=sizeLine:=by rw [ybz,sizeLine_eq];omega
 refine qoD I.kIn O c.sa c.po n.taker c.hd wi hz fun h' O' sb=>h _ ?_
 have hd:∃o,h'.get? dx=some o:=let ⟨o,_,_,e',_⟩:=O'.ns;⟨o,e'⟩
 refine I.write (x:=a) (e:=dx) (by rw [e];exact True.intro) (.inr ho) (fun b q hb z=>(sb.2 b hb).trans z) hd ?_
 refine ⟨by rw [qap O.ne];exact ho,?_,O.ne,O'.obj,_,O'.ns,fun g=>?_,fun g hg=>?_⟩
 . have:=qeL f y fs;omega
 . show qhz ((qgM f y fs).lookup g) (if g=f then some u else mA g)
   rw [qeT]
   by_cases q:g=f
   . rw [if_pos q,if_pos q];exact ry
   . rw [if_neg q,if_neg q];exact r g
 . by_cases q:g=f
   . rw [q];exact (qeZ f y fs).1
   . refine (qeZ f y fs).2 g (wi g fun z=>hg ?_)
     show (if g=f then some u else mA g)=none
     rw [if_neg q];exact z
def Inv.made (I:Inv X pins σ H s):Inv X pins σ (upd (upd H s.heap.objs.size (.own (s.heap.objs.size+1))) (s.heap.objs.size+1) (.ins C s.heap.objs.size []))
   { s with heap:=(s.heap.push PySem.W.emptyDict).push (PySem.W.instObj C s.heap.objs.size) }:=by
 have e1:(s.heap.push PySem.W.emptyDict).get? s.heap.objs.size=some PySem.W.emptyDict:=ydd s.heap rfl
 have e2:((s.heap.push PySem.W.emptyDict).push (PySem.W.instObj C s.heap.objs.size)).get? (s.heap.objs.size+1)=some (PySem.W.instObj C s.heap.objs.size):=by
   have:=ydd (s.heap.push PySem.W.emptyDict) (o:=PySem.W.instObj C s.heap.objs.size) rfl
   rwa [ydg] at this
 have e3:(s.heap.push PySem.W.emptyDict).Ns s.heap.objs.size (fun _=>none):=⟨PySem.W.emptyDict,#[],_,e1,rfl,(fun e he=>absurd he (by simp)),fun _=>rfl⟩
 have I1:=I.laid (a:=s.heap.objs.size) (o := .own (s.heap.objs.size+1)) (h':=s.heap.push PySem.W.emptyDict) (t':=s.toks) (fun b u q=>yde _ q) (yax _) ⟨_,e1⟩
 refine I1.laid (a:=s.heap.objs.size+1) (o := .ins C s.heap.objs.size []) (t':=s.toks) (fun b u q=>yde _ q) (ydt (ydg _ _)) ?_
 have ne:s.heap.objs.size≠s.heap.objs.size+1:=ydh (yck _)
 refine ⟨by rw [qap ne,qaj],ych _,ne,e2,fun _=>none,(Heap.Ns1.of_empty e3).at fun o q=>yde _ q,fun _=>True.intro,fun y hy=>absurd rfl hy⟩
def qpA {prog:Program} {w:World} {env:Env} {e:Expr} {f:Str} {pos:Pos} {s:Shared} {Q:Value->Shared->Prop} (hb:attributeBase e f env (eval e env)=eval e env)
   (h:wpAny (model prog w) A (eval e env) (fun o s₁=>wpAny (model prog w) A (getAttr o f true) Q E s₁) E s):wpAny (model prog w) A (eval (.Attribute e f pos) env) Q E s :=
 Attribute_any_ h (by rw [arm_eval_Attribute,hb])
end
def qsP (K:PySem.W.Frag) (ta:TE) (f:Str):TE:=fun σ H Q=>ta σ H fun x H1=>∃a C dx fs v,x = .ref a/\H1 a=some (.ins C dx fs)/\Cls K C/\qdx K C f/\fs.lookup f=some v/\Q v H1
def qsa (K:PySem.W.Frag) (ta tv:TE) (f:Str):TS:=fun D σ H=>tv σ H fun y H1=>ta σ H1 fun x H2=>∃a C dx fs,x = .ref a/\H2 a=some (.ins C dx fs)/\Cls K C/\qdx K C f/\fs.length<1000 /\
 D.nx σ (upd H2 a (.ins C dx (qgM f y fs)))
section
variable {X:Cx} {o e value:Expr} {f:Str} {pos pos' tpos:Pos} {ta tv:TE}
def qc6 (he:PE X e ta) (hb:attributeBase e f X.env (eval e X.env)=eval e X.env):PE X (.Attribute e f pos) (qsP X.K ta f):=by
 intro pins s σ H Q I h
 refine qpA hb (thn (he pins s σ H _ I h) fun u s1 ⟨x,H1,I1,rx,a,C,dx,fs,v,ex,ea,c,n,l,q⟩=>?_)
 subst ex
 obtain rfl:u=Value.ref a:=rx
 exact qjs I1 ea c n l fun u' s2 I2 ru=>⟨v,H1,I2,ru,q⟩
def qnQ (ha:PE X o ta) (hv:PE X value tv) (hs:swapsWith value (some (.Attribute o f pos')) pos.line X.env=pure false):PS X (.Assign [.Attribute o f pos'] value pos) (qsa X.K ta tv f):=by
 intro pins s σ H D I h
 refine plainObj_wpAny_Assign_Attribute (thn (hv pins s σ H _ I h) fun u s1 ⟨y,H1,I1,ry,q⟩=>thn (ha pins s1 σ H1 _ I1 q) fun ov s2 ⟨x,H2,I2,rx,a,C,dx,fs,ex,ea,c,n,l,q2⟩=>?_) hs
 subst ex
 obtain rfl:ov=Value.ref a:=rx
 exact qja I2 ea c n l ry fun s3 I3=>⟨σ,_,I3,q2⟩
def qn7 {pl:Sem Bool} {m:Str} {apos:Pos} {args:List Expr} {pins:List (Addr×Obj)} {s:Shared} {σ:St} {H:Hp} {Q:Value->Shared->Prop} {te:TE} (he:PE X e te) (I:Inv X pins σ H s)
   (h:te σ H fun x H1=>∃a C dx fs g,x = .ref a/\H1 a=some (.ins C dx fs)/\Cls X.K C/\qre X.K C m g/\fs.lookup m=none /\
     ∀s1,Inv X pins σ H1 s1->wpAny (model X.prog X.w) X.A (callWith pos (.ref g) [.ref a] (backTo pos (starEach args X.env)) (backToKw pos (keywordEach [] X.env))) Q X.xe s1)
   (ht:eval (.Call (.Attribute e m apos) args [] pos) X.env=(do
     let ov <-eval e X.env
     standAt apos.atName
     let (f,first) <-holding [ov] (getMethod ov m pl)
     callWith pos f first (backTo pos (starEach args X.env)) (backToKw pos (keywordEach [] X.env)))) :
   wpAny (model X.prog X.w) X.A (eval (.Call (.Attribute e m apos) args [] pos) X.env) Q X.xe s:=by
 refine PySem.W.methodCall_KW (pl:=pl) (thn (he pins s σ H _ I h) fun u s1 ⟨x,H1,I1,rx,a,C,dx,fs,g,ex,ea,c,k,l,q⟩=>?_) ht
 subst ex
 obtain rfl:u=Value.ref a:=rx
 exact qfQ I1 ea c k l (q s1 I1)
end
section
variable {X:Cx} {pins:List (Addr×Obj)} {σ:St} {H:Hp} {s:Shared} {A:Around} {E:Value->Shared->Prop} {Q:Value->Shared->Prop} {c:Value} {b:Bool}
inductive qjt (K:PySem.W.Frag) (H:Hp):V->Value->Prop where
 | non:qjt K H .non (.type "NoneType")
 | bl (x:Bool):qjt K H (.bl x) (.type "bool")
 | int (i:Int):qjt K H (.int i) (.type "int")
 | str (x:Str):qjt K H (.str x) (.type "str")
 | flt (x:UInt64):qjt K H (.flt x) (.type "float")
 | lst {a:Addr} {xs:List V} (e:H a=some (.lst xs)):qjt K H (.ref a) (.type "list")
 | frz {a:Addr} {o:Obj} {xs:List V} (e:H a=some (.frz o (.lst xs))):qjt K H (.ref a) (.type "list")
 | tup {a:Addr} {xs:List V} (e:H a=some (.tup xs)):qjt K H (.ref a) (.type "tuple")
 | dK {a:Addr} {kvs:List (Key×V)} (e:H a=some (.dK kvs)):qjt K H (.ref a) (.type "dict")
 | dT {a:Addr} {kvs:List (List Key×V)} (e:H a=some (.dT kvs)):qjt K H (.ref a) (.type "dict")
 | ins {a C dx:Addr} {fs:List (Str×V)} (e:H a=some (.ins C dx fs)) (cl:Cls K C) (ha:PySem.W.findIn K (.ref C) "__class__" = some (some (.builtin "object.__class__")))
     (hn:PySem.W.specialIn K (.builtin "object.__class__") "__get__" = some (some (.builtin "getset_descriptor.__get__"))) (htk:PySem.W.takesIn K (.builtin "object.__class__")=some true)
     (hm:PySem.W.mroIn K C (.type "object")=some true):qjt K H (.ref a) (.ref C)
def qlf {x:V} {u t:Value} (I:Inv X pins σ H s) (rx:qbg x u) (ty:qjt X.K H x t) (e:PySem.W.kitOne X.K t c=some b) (h:∀tk,Q (.bool b) { s with toks:=tk }) :
   wpAny (model X.prog X.w) A (call (.builtin "isinstance") [u,c]) Q E s:=by
 cases ty with
 | non=>cases (show u=Value.none from rx);exact PySem.W.kia_one PySem.W.kitx_none I.kIn True.intro e (fun z=>nomatch z) h
 | bl y=>cases (show u=Value.bool y from rx);exact PySem.W.kia_one PySem.W.kitx_bool I.kIn True.intro e (fun z=>nomatch z) h
 | int i=>obtain ⟨t,q⟩:=(show ∃t,u=Value.int i t from rx);cases q;exact PySem.W.kia_one PySem.W.kitx_int I.kIn True.intro e (fun z=>nomatch z) h
 | str y=>obtain ⟨t,q⟩:=(show ∃t,u=Value.str y t from rx);cases q;exact PySem.W.kia_one PySem.W.kitx_str I.kIn True.intro e (fun z=>nomatch z) h
 | flt y=>obtain ⟨t,q⟩:=(show ∃t,u=Value.float y t from rx);cases q;exact PySem.W.kia_one PySem.W.kitx_float I.kIn True.intro e (fun z=>nomatch z) h
 | @lst a xs ea =>
   cases (show u=Value.ref a from rx)
   obtain ⟨_,_,n,_,h1⟩:=(show qbe X.prog X.w H s.heap a (.lst xs) from I.hok a _ ea)
   exact PySem.W.kia_one PySem.W.kitx_list I.kIn ⟨_,h1,rfl⟩ e (fun z=>nomatch z) h
 | @frz a ob xs ea =>
   cases (show u=Value.ref a from rx)
   obtain ⟨_,_,_,n,_,h1⟩:=(show qbe X.prog X.w H s.heap a (.frz ob (.lst xs)) from I.hok a _ ea)
   exact PySem.W.kia_one PySem.W.kitx_list I.kIn ⟨_,h1,rfl⟩ e (fun z=>nomatch z) h
 | @tup a xs ea =>
   cases (show u=Value.ref a from rx)
   obtain ⟨_,_,_,p⟩:=(show qbe X.prog X.w H s.heap a (.tup xs) from I.hok a _ ea)
   obtain ⟨o,h1,h2,_⟩:=p
   exact PySem.W.kia_one PySem.W.kitx_tuple I.kIn ⟨o,h1,h2⟩ e (fun z=>nomatch z) h
 | @dK a kvs ea =>
   cases (show u=Value.ref a from rx)
   obtain ⟨_,_,vs,_,p⟩:=(show qbe X.prog X.w H s.heap a (.dK kvs) from I.hok a _ ea)
   obtain ⟨o,es,ep,h1,h2,_⟩:=p
   exact PySem.W.kia_one PySem.W.kitx_dict I.kIn ⟨o,h1,h2.1⟩ e (fun z=>nomatch z) h
 | @dT a kvs ea =>
   cases (show u=Value.ref a from rx)
   obtain ⟨_,_,xs,_,o,es,ep,h1,h2,_⟩:=(show qbe X.prog X.w H s.heap a (.dT kvs) from I.hok a _ ea)
   exact PySem.W.kia_one PySem.W.kitx_dict I.kIn ⟨o,h1,h2.1⟩ e (fun z=>nomatch z) h
 | @ins a C dx fs ea cl ha hn htk hm =>
   cases (show u=Value.ref a from rx)
   obtain ⟨mA,O,_⟩:=qga I.hok ea
   obtain ⟨od,J,_⟩:=O.look
   exact PySem.W.kia_one (PySem.W.kitx_own (cl.get _) cl.hd ha hn htk hm) I.kIn J e (fun z=>nomatch z) h
end
end L2
namespace L2
open PySem PySem.Spec PyProof.Rows
structure qcZ (k:Nat) (A:Around):Prop where
 hd:A.handled=none
 dp:A.depth+3*k+5<recursionLimit
 un:A.units+16*k+200<cLine
def qcZ.mono {j k:Nat} {A:Around} (r:qcZ k A) (h:j<=k):qcZ j A:=⟨r.hd,by have:=r.dp;omega,by have:=r.un;omega⟩
def qcZ.deeper {k:Nat} {A:Around} (r:qcZ (k+1) A) (env:Env):qcZ k (A.deeper env) :=
 ⟨r.hd,by have:=r.dp;show A.depth+1+3*k+5<_;omega,by have:=r.un;show A.units+3+16*k+200<_;omega⟩
def qjw {A:Around} {C:Addr} {us:List Value} {kw:List (Str×Value)}:(A.under (.builtin "type.__call__" ⟨.ref C::us,kw⟩)).depth=A.depth+1:=by
 first | rfl | simp [Around.under,Code.weight,Code.isCreation,Code.isGuard,Code.isCaller,Code.frames,Code.isFrame,guardIds]
def qjb {A:Around} {C:Addr} {us:List Value} {kw:List (Str×Value)}:(A.under (.builtin "type.__call__" ⟨.ref C::us,kw⟩)).units=A.units+1:=by
 first | rfl | simp [Around.under,Code.cUnits,Code.frames,Code.isFrame]
def qcZ.make {k:Nat} {A:Around} (r:qcZ (k+1) A) (C:Addr) (us:List Value) (kw:List (Str×Value)):qcZ k (A.under (.builtin "type.__call__" ⟨.ref C::us,kw⟩)) :=
 ⟨r.hd,by have:=r.dp;rw [qjw];omega,by have:=r.un;rw [qjb];omega⟩
def qcZ.depth {k:Nat} {A:Around} (r:qcZ k A):A.depth<recursionLimit:=by have:=r.dp;omega
def qcZ.units {k:Nat} {A:Around} (r:qcZ k A):A.units+64<cLine:=by have:=r.un;omega
def qcZ.units0 {k:Nat} {A:Around} (r:qcZ k A):A.units<cLine:=by have:=r.un;omega
def qrZ:TA:=fun _ H Q=>Q [] H
def qdQ (ta:TE) (tr:TA):TA:=fun σ H Q=>ta σ H fun x H1=>tr σ H1 fun xs H2=>Q (x::xs) H2
section
variable {X:Cx} {e:Expr} {es:List Expr} {te:TE} {t:TA} {pos:Pos}
def qad:PA X [] qrZ:=fun _ _ _ _ H Q I h=>Calls.spliced_nil ⟨[],H,I,.nil,h⟩
def qaa (ha:PE X e te) (hr:PA X es t) (hs:starEach (e::es) X.env=(false,eval e X.env)::starEach es X.env:=by rfl):PA X (e::es) (qdQ te t):=by
 intro pos pins s σ H Q I h
 rw [hs]
 show wpAny _ _ (spliced ((false,eval e X.env)::backTo pos (starEach es X.env))) _ _ s
 refine Calls.spliced_cons (thn (ha pins s σ H _ I h) fun u s1 ⟨x,H1,I1,r1,q1⟩=>?_)
 exact thn (hr pos pins s1 σ H1 _ I1 q1) fun us s2 ⟨xs,H2,I2,r2,q2⟩=>⟨x::xs,H2,I2,.cons r1 r2,q2⟩
def qs2 (t:TA):TE:=fun σ H Q=>t σ H fun xs H1=>xs.length<=sizeLine/\∀p,H1 p=none->Q (.ref p) (upd H1 p (.tup xs))
def qsL (t:TA):TE:=fun σ H Q=>t σ H fun xs H1=>xs.length<=sizeLine/\∀p,H1 p=none->Q (.ref p) (upd H1 p (.lst xs))
def qaS (h:PA X es t):PE X (.List es pos) (qsL t):=by
 intro pins s σ H Q I hq
 refine wpAny_List_spliced (thn (h pos pins s σ H _ I hq) fun us s1 ⟨xs,H1,I1,r,z,q⟩=>⟨by rw [<-r.length];exact z,?_⟩)
 have hf:H1 s1.heap.objs.size=none:=I1.hok.fresh (yax _)
 refine ⟨.ref s1.heap.objs.size,upd H1 s1.heap.objs.size (.lst xs),I1.laid (t':=s1.toks) (fun b u e=>yde _ e) (yax _) ?_,rfl,q _ hf⟩
 exact ⟨z,us,0,r,ydd _ rfl⟩
end
abbrev Sp:=List V->Hp->VK->XK->Prop
abbrev CXT:=List Env->Hp->Shared->XK->Value->Shared->Prop
structure qof (P:Program) (w:World) (K:PySem.W.Frag) (mg:Str->Option Value) (base:Heap) (A:Around) (outer:List Env) (s:Shared) (H:Hp):Prop where
 frames:A.frames=some outer
 mod:Mod K mg base
 bs:∀b o,base.get? b=some o->s.heap.get? b=some o/\H b=none
 bsz:base.objs.size<=s.heap.objs.size
 funs:s.heap.FunFrames base outer
 frf:∀b∈frs outer,H b=none
 hok:HOk P w H s.heap
 bare:AllBare s.gens
def CE (outer:List Env) (P:Program) (w:World) (H:Hp) (s:Shared) (Q:VK) (u:Value) (s':Shared):Prop :=
 ∃v H',s'.os=s.os/\AllBare s'.gens/\Un (frs outer) [] H H' s.heap s'.heap/\HOk P w H' s'.heap/\qbg v u/\Q v H'
def CR (CX:CXT) (outer:List Env) (P:Program) (w:World) (H:Hp) (s:Shared) (Q:VK) (E:XK) (r:Result) (s':Shared):Prop :=
 match r with
 | .ok (.ret u)=>CE outer P w H s Q u s'
 | .ok _=>False
 | .error e=>CX outer H s E e s'
structure qaN (P:Program) (w:World) (K:PySem.W.Frag) (mg:Str->Option Value) (base:Heap) (CX:CXT) (k:Nat) (f:Addr) (fd:FuncData) (ps:List Str) (sp:Sp):Prop where
 len:∀vs H Q E,sp vs H Q E->vs.length=ps.length
 run:∀(A:Around) (outer:List Env) (s:Shared) (H:Hp) (args:Args) (us:List Value) (vs:List V) (Q:VK) (E:XK),qcZ k A->qof P w K mg base A outer s H->BindsTo s fd args (ps.zip us)->qaV vs us->sp vs H Q E ->
   codeAny (model P w) A (.call (.ref f) args) (CR CX outer P w H s Q E) s
def qof.make {P:Program} {w:World} {K:PySem.W.Frag} {mg:Str->Option Value} {base:Heap} {A:Around} {outer:List Env} {s:Shared} {H:Hp} (e:qof P w K mg base A outer s H) (C:Addr) (us:List Value) (kw:List (Str×Value)) :
 qof P w K mg base (A.under (.builtin "type.__call__" ⟨.ref C::us,kw⟩)) outer s H:=⟨by first | exact e.frames | (simpa [Around.under,Code.envs,Code.isFrame,pushEnvs] using e.frames),e.mod,e.bs,e.bsz,e.funs,e.frf,e.hok,e.bare⟩
section
variable {X:Cx} {pins:List (Addr×Obj)} {σ:St} {H:Hp} {s s':Shared}
def Inv.env0 (I:Inv X pins σ H s):qof X.prog X.w X.K X.mg X.base X.A X.stack s H :=
 ⟨I.ok.frames,I.ok.mod,I.bs,ycf I.ok.bsz I.sz,I.stack,I.stkFree,I.hok,I.bare⟩
def Inv.after {Q:VK} {u:Value} (I:Inv X pins σ H s) (h:CE X.stack X.prog X.w H s Q u s'):EP X pins σ Q u s':=by
 obtain ⟨v,H',os,bare,un,hok,r,q⟩:=h
 obtain ⟨hh,g,d,t,os'⟩:=s'
 obtain rfl:os'=s.os:=os
 exact ⟨v,H',I.call (h':=hh) (g':=g) (d':=d) (t':=t) (ch:=[]) un hok bare (fun b z=>absurd z (by simp)),r,q⟩
end
def qky (sp:Sp) (dvs:List V) (E:XK) (t:TA):TE:=fun σ H Q=>t σ H fun vs H1=>sp (vs++dvs) H1 Q E
def qoe (C:Addr) (m:Str) (sp:Sp) (dvs:List V) (E:XK) (ta:TE) (t:TA):TE:=fun σ H Q=>ta σ H fun x H1=>∃a dx fs,x = .ref a/\H1 a=some (.ins C dx fs)/\fs.lookup m=none /\
 t σ H1 fun vs H2=>sp (x::(vs++dvs)) H2 Q E
def qoM (C:Addr) (sp:Sp) (dvs:List V) (E:XK) (t:TA):TE:=fun σ H Q=>t σ H fun vs H1=>∀x dx,H1 x=none->H1 dx=none->dx≠x ->
 sp (.ref x::(vs++dvs)) (upd (upd H1 dx (.own x)) x (.ins C dx [])) (fun v H2=>v = .non/\Q (.ref x) H2) E
def qdC (K:PySem.W.Frag) (fd:FuncData) (ps:List Str) (ds:List Value):Prop :=
 ∀(s:Shared) (us:List Value),K.In s.heap->(us++ds).length=ps.length->BindsTo s fd ⟨us,[]⟩ (ps.zip (us++ds))
def qdC.all {K:PySem.W.Frag} {fd:FuncData} {ps:List Str} (h:∀us:List Value,us.length=ps.length->bindArgs fd ⟨us,[]⟩=pure (ps.zip us)):qdC K fd ps []:=fun s us _ hl=>by
 rw [ydn] at hl ⊢
 exact .of_eq (h us hl)
def qcf (CX:CXT) (X:Cx) (E:XK):Prop:=∀(pins:List (Addr×Obj)) (σ:St) (H:Hp) (s:Shared) (e:Value) (s':Shared),Inv X pins σ H s->CX X.stack H s E e s'->X.xe e s'
section
variable {X:Cx} {CX:CXT} {k:Nat} {f C:Addr} {fd:FuncData} {ps:List Str} {sp:Sp} {dvs:List V} {ds:List Value} {E:XK} {x m:Str} {p pos apos:Pos} {e o:Expr} {es:List Expr} {ta:TE} {t:TA}
def qnz {pins:List (Addr×Obj)} {σ:St} {H:Hp} {s:Shared} {Q:VK} {us:List Value} {vs:List V} (F:qaN X.prog X.w X.K X.mg X.base CX k f fd ps sp) (hr:qcZ k X.A) (hb:qdC X.K fd ps ds) (hd:qaV dvs ds) (hx:qcf CX X E)
   (I:Inv X pins σ H s) (r:qaV vs us) (h:sp (vs++dvs) H Q E):wpAny (model X.prog X.w) X.A (call (.ref f) us) (EP X pins σ Q) X.xe s:=by
 have r2:qaV (vs++dvs) (us++ds):=r.append hd
 have hl:(us++ds).length=ps.length:=by rw [<-r2.length];exact F.len _ _ _ _ h
 refine wpAny_call (codeAny_mono (F.run X.A X.stack s H ⟨us,[]⟩ (us++ds) (vs++dvs) Q E hr I.env0 (hb s us I.kIn hl) r2 h) fun r s' hq=>?_)
 cases r with
 | error e=>exact hx pins σ H s e s' I hq
 | ok fl =>
   cases fl with
   | ret u=>exact I.after hq
   | next=>exact False.elim hq
   | brk=>exact False.elim hq
   | cont=>exact False.elim hq
def qkU (F:qaN X.prog X.w X.K X.mg X.base CX k f fd ps sp) (hr:qcZ k X.A) (hg:Gl X x) (hm:X.mg x=some (.ref f)) (hk:PySem.W.keepIn X.K (.ref f)=true) (hb:qdC X.K fd ps ds) (hd:qaV dvs ds) (hx:qcf CX X E)
   (ha:PA X (e::es) t) (hdb:(x==("__debug__" : Str))=false:=by decide) (he:starEach (e::es) X.env=(false,eval e X.env)::starEach es X.env:=by rfl) (hpl:(backTo pos (starEach es X.env)).any (·.1)=false:=by rfl) :
   PE X (.Call (.Name x p) (e::es) [] pos) (qky sp dvs E t):=by
 intro pins s σ H Q I h
 refine wpAny_Call_Name_kw (qd2 I hg hm ?_ hdb)
 refine PySem.W.callWith_K (h₀:=X.base) I.ok.mod.kin hk (thn (ha pos pins s σ H _ I h) fun us s1 ⟨vs,H1,I1,r,q⟩=>⟨I1.kIn,?_⟩) he hpl
 exact qnz F hr hb hd hx I1 r q
def qn9 {pl:Sem Bool} (he:PE X o ta) (c:Cls X.K C) (hm:qre X.K C m f) (F:qaN X.prog X.w X.K X.mg X.base CX k f fd ps sp) (hr:qcZ k X.A) (hb:qdC X.K fd ps ds) (hd:qaV dvs ds) (hx:qcf CX X E) (ha:PA X (e::es) t)
   (hst:starEach (e::es) X.env=(false,eval e X.env)::starEach es X.env:=by rfl) (hpl:(backTo pos (starEach es X.env)).any (·.1)=false:=by rfl)
   (ht:eval (.Call (.Attribute o m apos) (e::es) [] pos) X.env=(do
     let ov <-eval o X.env
     standAt apos.atName
     let (f,first) <-holding [ov] (getMethod ov m pl)
     callWith pos f first (backTo pos (starEach (e::es) X.env)) (backToKw pos (keywordEach [] X.env))):=by rfl) :
   PE X (.Call (.Attribute o m apos) (e::es) [] pos) (qoe C m sp dvs E ta t):=by
 intro pins s σ H Q I h
 refine PySem.W.methodCall_KW (pl:=pl) (thn (he pins s σ H _ I h) fun u s1 ⟨x,H1,I1,rx,a,dx,fs,ex,ea,l,q⟩=>?_) ht
 subst ex
 obtain rfl:u=Value.ref a:=rx
 refine qfQ I1 ea c hm l ?_
 refine PySem.W.callWith_K (first:=[.ref a]) (h₀:=X.base) I.ok.mod.kin hm.kp (thn (ha pos pins s1 σ H1 _ I1 q) fun us s2 ⟨vs,H2,I2,r,q2⟩=>⟨I2.kIn,?_⟩) hst hpl
 exact qnz (us := .ref a::us) (vs := .ref a::vs) F hr hb hd hx I2 (.cons rfl r) q2
structure Mk (K:PySem.W.Frag) (C f:Addr):Prop where
 makes:PySem.W.makesIn K C=true
 init:PySem.W.findIn K (.ref C) "__init__" = some (some (.ref f))
 fn:PySem.W.isFn K (.ref f)=true
 kp:PySem.W.keepIn K (.ref C)=true
def ql9 {pins:List (Addr×Obj)} {σ:St} {H:Hp} {s:Shared} {Q:VK} {us:List Value} {vs:List V} (M:Mk X.K C f) (F:qaN X.prog X.w X.K X.mg X.base CX k f fd ps sp) (hr:qcZ (k+1) X.A) (hb:qdC X.K fd ps ds) (hd:qaV dvs ds)
   (hx:qcf CX X E) (I:Inv X pins σ H s) (r:qaV vs us)
   (h:∀x dx,H x=none->H dx=none->dx≠x->sp (.ref x::(vs++dvs)) (upd (upd H dx (.own x)) x (.ins C dx [])) (fun v H2=>v = .non/\Q (.ref x) H2) E) :
   wpAny (model X.prog X.w) X.A (call (.ref C) us) (EP X pins σ Q) X.xe s:=by
 have hq:=h (s.heap.objs.size+1) s.heap.objs.size (I.hok.fresh (ydc _)) (I.hok.fresh (yax _)) (ydh (yck _))
 have I2:=Inv.made (C:=C) I
 have r2:qaV (V.ref (s.heap.objs.size+1)::(vs++dvs)) (Value.ref (s.heap.objs.size+1)::(us++ds)) := .cons rfl (r.append hd)
 have hl:(Value.ref (s.heap.objs.size+1)::us++ds).length=ps.length:=by
   have e:=r2.length
   rw [F.len _ _ _ _ hq] at e
   exact e.symm
 refine wpAny_call (ql3 (f:=f) I.kIn M.makes M.init (beq_iff_eq.mp M.fn) (codeAny_mono (F.run _ X.stack _ _ ⟨Value.ref (s.heap.objs.size+1)::us,[]⟩ (Value.ref (s.heap.objs.size+1)::(us++ds)) _ _ E (hr.make C us [])
   (I2.env0.make C us []) (hb _ (Value.ref (s.heap.objs.size+1)::us) I2.kIn hl) r2 hq) fun r s' hq'=>?_))
 cases r with
 | error e=>exact hx pins σ _ _ e s' I2 hq'
 | ok fl =>
   cases fl with
   | ret u =>
     obtain ⟨v,H',I3,rv,ev,q3⟩:=I2.after hq'
     subst ev
     exact ⟨rv,⟨V.ref (s.heap.objs.size+1),H',I3,rfl,q3⟩⟩
   | next=>exact False.elim hq'
   | brk=>exact False.elim hq'
   | cont=>exact False.elim hq'
def qpn (M:Mk X.K C f) (F:qaN X.prog X.w X.K X.mg X.base CX k f fd ps sp) (hr:qcZ (k+1) X.A) (hg:Gl X x) (hm:X.mg x=some (.ref C)) (hb:qdC X.K fd ps ds) (hd:qaV dvs ds) (hx:qcf CX X E)
   (ha:PA X (e::es) t) (hdb:(x==("__debug__" : Str))=false:=by decide) (he:starEach (e::es) X.env=(false,eval e X.env)::starEach es X.env:=by rfl) (hpl:(backTo pos (starEach es X.env)).any (·.1)=false:=by rfl) :
   PE X (.Call (.Name x p) (e::es) [] pos) (qoM C sp dvs E t):=by
 intro pins s σ H Q I h
 refine wpAny_Call_Name_kw (qd2 I hg hm ?_ hdb)
 refine PySem.W.callWith_K (h₀:=X.base) I.ok.mod.kin M.kp (thn (ha pos pins s σ H _ I h) fun us s1 ⟨vs,H1,I1,r,q⟩=>⟨I1.kIn,?_⟩) he hpl
 exact ql9 M F hr hb hd hx I1 r q
end
section
variable {X:Cx} {CX:CXT} {k:Nat} {f C:Addr} {fd:FuncData} {ps ks:List Str} {sp:Sp} {E:XK} {x m:Str} {p pos apos kpos:Pos} {e o:Expr} {es:List Expr} {kws:List Keyword} {te ta:TE} {t tk:TA} {nm:Option Str}
structure qsT (K:PySem.W.Frag) (fd:FuncData) (ps ks:List Str) (g:List Value->List Value->List Value) (gV:List V->List V->List V):Prop where
 to:∀(s:Shared) (us ws:List Value),K.In s.heap->(g us ws).length=ps.length->BindsTo s fd ⟨us,ks.zip ws⟩ (ps.zip (g us ws))
 rel:∀{vs:List V} {us:List Value} {zs:List V} {ws:List Value},qaV vs us->qaV zs ws->qaV (gV vs zs) (g us ws)
variable {g:List Value->List Value->List Value} {gV:List V->List V->List V}
end
structure qai (N P:List Str) (sc:Scope):Prop where
 kind:sc.kind = .function
 co:sc.isCoroutine=false
 gen:sc.isGenerator=false
 nd:N.Nodup
 pre:N.take P.length=P
 par:∀x∈P,sc.names.lookup x=some .local\/sc.names.lookup x=some .cell
 nofree:∀y∈sc.names,y.2 ≠ .free
def qg0 {kindOf:Str->Option NameKind} {x:Str}:∀{binds:List (Str×Value)} {m:Str->Option Value},(∀v,(x,v)∉binds)->bindL kindOf binds m x=m x
 | [],_,_=>rfl
 | (n,v)::r,m,h=>by
   unfold bindL
   rw [qg0 fun w hw=>h w (ybe _ hw)]
   split
   . have:x≠n:=by rintro rfl;exact h v ybb
     simp [this]
   . rfl
def qg5 {kindOf:Str->Option NameKind} {x:Str}:∀{binds:List (Str×Value)} {m:Str->Option Value},(∀v,(x,v)∉binds)->bindC kindOf binds m x=m x
 | [],_,_=>rfl
 | (n,v)::r,m,h=>by
   unfold bindC
   rw [qg5 fun w hw=>h w (ybe _ hw)]
   split
   . rfl
   . have:x≠n:=by rintro rfl;exact h v ybb
     simp [this]
def qha {kindOf:Str->Option NameKind} {x:Str} {v:Value}:∀{P:List Str} {vs:List Value} {i:Nat} {m:Str->Option Value},P.Nodup->P[i]?=some x->vs[i]?=some v->kindOf x=some .local ->
   bindL kindOf (P.zip vs) m x=some v
 | [],_,_,_,_,h,_,_=>by simp at h
 | _::_,[],_,_,_,_,h,_=>by simp at h
 | p::P,w::vs,0,m,nd,h1,h2,hk=>by
   simp at h1 h2;subst h1;subst h2
   show bindL kindOf ((p,w)::P.zip vs) m p=_
   unfold bindL
   rw [qg0 fun v hv=>(yej.mp nd).1 (yek hv).1,if_pos hk]
   simp
 | p::P,w::vs,i+1,m,nd,h1,h2,hk=>by
   show bindL kindOf ((p,w)::P.zip vs) m x=_
   unfold bindL
   exact qha (i:=i) (yej.mp nd).2 (by simpa using h1) (by simpa using h2) hk
def qg8 {kindOf:Str->Option NameKind} {x:Str} {v:Value}:∀{P:List Str} {vs:List Value} {i:Nat} {m:Str->Option Value},P.Nodup->P[i]?=some x->vs[i]?=some v->kindOf x≠some .local ->
   bindC kindOf (P.zip vs) m x=some v
 | [],_,_,_,_,h,_,_=>by simp at h
 | _::_,[],_,_,_,_,h,_=>by simp at h
 | p::P,w::vs,0,m,nd,h1,h2,hk=>by
   simp at h1 h2;subst h1;subst h2
   show bindC kindOf ((p,w)::P.zip vs) m p=_
   unfold bindC
   rw [qg5 fun v hv=>(yej.mp nd).1 (yek hv).1,if_neg hk]
   simp
 | p::P,w::vs,i+1,m,nd,h1,h2,hk=>by
   show bindC kindOf ((p,w)::P.zip vs) m x=_
   unfold bindC
   exact qg8 (i:=i) (yej.mp nd).2 (by simpa using h1) (by simpa using h2) hk
def qgs (N:List Str) (vs:List V):St:=vs.map some++List.replicate (N.length-vs.length) none
def qgS (CX:CXT) (P:Program) (w:World) (K:PySem.W.Frag) (mg:Str->Option Value) (base:Heap) (N:List Str) (qual:Str) (scope:Scope) (f:Addr) (cd:Value) (A:Around) (outer:List Env) (s:Shared) (H:Hp) (E:XK):Cx where
 prog:=P
 w:=w
 K:=K
 mg:=mg
 base:=base
 A:=A.deeper (envOfC qual scope s.heap.objs.size f cd)
 N:=N
 s₀:=s
 H₀:=H
 env:=envOfC qual scope s.heap.objs.size f cd
 outer:=outer
 stack:=envOfC qual scope s.heap.objs.size f cd::outer
 ex:=[]
 calm:=true
 fn:=fun _=>true
 pn:=[]
 xe:=fun e s'=>wpAny (model P w) (A.deeper (envOfC qual scope s.heap.objs.size f cd)) (leaving (envOfC qual scope s.heap.objs.size f cd) e) (fun _ s''=>CX outer H s E e s'') (fun e' s''=>CX outer H s E e' s'') s'
def qiF {sc:Scope} {n:Nat} {x:Str} (h:sc.names.lookup x=some .cell):∃c,(cellsFrom n sc.names []).lookup x=some c:=by
 have q:=PySem.W.cellsFrom_some sc.names n [] (.inl h)
 exact yel.mp q
def qkL {CX:CXT} {P:Program} {w:World} {K:PySem.W.Frag} {mg:Str->Option Value} {base:Heap} {N ps:List Str} {qual:Str} {scope:Scope} {f:Addr} {cd:Value} {A:Around} {outer:List Env} {s s1:Shared} {H:Hp} {E:XK} {us:List Value} {vs:List V}
   (S:qai N ps scope) (hd:A.handled=none) (e0:qof P w K mg base A outer s H) (hl:vs.length=ps.length) (r:qaV vs us)
   (x:InCallC s s.heap.objs.size (bindL (envOfC qual scope s.heap.objs.size f cd).kindOf (ps.zip us) fun _=>none) (cellsFrom (s.heap.objs.size+1) scope.names []) (bindC (envOfC qual scope s.heap.objs.size f cd).kindOf (ps.zip us) fun _=>none) s1) :
   Inv (qgS CX P w K mg base N qual scope f cd A outer s H E) [] (qgs N vs) H s1:=by
 have hpl:ps.length<=N.length:=by have:=congrArg List.length S.pre;rw [yem] at this;omega
 obtain ⟨h1,tk,rfl,hk⟩:=x.done
 have noA:∀b:Addr,b∉(qgS CX P w K mg base N qual scope f cd A outer s H E).ex:=fun b z=>absurd (show b∈([]:List Addr) from z) (by simp)
 refine ⟨⟨e0.mod,S.kind,rfl,rfl,yax _,fun y z c h1 h2=>?_,fun y hy=>?_,fun y c _ h=>?_,fun _=>hd,Around.frames_deeper e0.frames,.inr ⟨rfl,rfl⟩,fun b z=>absurd z (noA b),e0.bs,e0.bsz,fun b _ _=>noA b,fun b z=>absurd z (noA b),e0.funs,e0.frf⟩,
   rfl,e0.bare,Un.kept hk,⟨_,x.toInCall.ns,fun i y v h1 h2 h3=>?_⟩,fun y c h=>⟨_,x.cell y c h⟩,e0.hok.fresh (yax _),fun y c h=>?_,fun p hp=>absurd (show p∈([]:List (Addr×Obj)) from hp) (by simp),e0.hok.kept hk,?_⟩
 . exact name_of_addr x.apart (PySem.mem_of_lookup h1) (PySem.mem_of_lookup h2)
 . have hy:scope.names.lookup y=some .cell\/scope.names.lookup y=some .free:=hy
   rcases hy with hy | hy
   . exact qiF hy
   . exact absurd rfl (S.nofree _ (PySem.mem_of_lookup hy))
 . exact yce (x.above y c (PySem.mem_of_lookup h))
 . have hi:i<vs.length:=by
     unfold qgs at h2
     by_cases hi:i<vs.length
     . exact hi
     . rw [yen (by simpa using hi)] at h2
       rw [yeo] at h2
       split at h2<;>cases h2
   have ha:vs[i]?=some v:=by
     unfold qgs at h2
     rw [yep (by simpa using hi),ydr] at h2
     cases e:vs[i]? with
     | none=>rw [e] at h2;cases h2
     | some a=>rw [e] at h2;cases h2;rfl
   obtain ⟨u,hu,rv⟩:=r.get ha
   have hp:ps[i]?=some y:=by
     rw [<-S.pre,List.getElem?_take_of_lt (by omega)];exact h1
   have ndP:ps.Nodup:=by rw [<-S.pre];exact S.nd.sublist (List.take_sublist _ _)
   refine ⟨u,rv,?_⟩
   rcases S.par y (ybv hp) with k | k
   . exact .inl ⟨k,qha ndP hp hu k⟩
   . obtain ⟨c,e⟩:=qiF (n:=s.heap.objs.size+1) k
     refine .inr ⟨.inl k,c,e,?_⟩
     have q:=x.cell y c e
     rw [qg8 ndP hp hu (by show scope.names.lookup y≠_;rw [k];decide)] at q
     exact q
 . exact e0.hok.fresh (yce (x.above y c (PySem.mem_of_lookup h)))
 . unfold qgs
   show _=N.length
   rw [yby,ybz,yeq]
   omega
def qqH {CX:CXT} {P:Program} {w:World} {K:PySem.W.Frag} {mg:Str->Option Value} {base:Heap} {k:Nat} {f:Addr} {name qual:Str} {params:Arguments} {body:List Stmt} {scope:Scope} {dV kV doc pm cdv ct oc:Value} {an od:Option Addr}
   {osl:Array (Option Value)} {N ps:List Str} {sp:Sp} (lk:K.lookup f=some ⟨oc,od,.func (PySem.W.fnOf name qual params body scope dV kV doc pm an cdv ct),osl⟩) (hcd:PySem.W.codeIn K cdv qual=true) (S:qai N ps scope)
   (len:∀vs H Q E,sp vs H Q E->vs.length=ps.length)
   (hbody:∀(A:Around) (outer:List Env) (s:Shared) (H:Hp) (vs:List V) (Q:VK) (E:XK),qcZ k (A.deeper (envOfC qual scope s.heap.objs.size f cdv))->sp vs H Q E ->
     ∃t,PSs (qgS CX P w K mg base N qual scope f cdv A outer s H E) body t/\t { nx:=fun _ H'=>Q .non H',rt:=Q } (qgs N vs) H) :
   qaN P w K mg base CX (k+1) f (PySem.W.fnOf name qual params body scope dV kV doc pm an cdv ct) ps sp:=by
 refine ⟨len,fun A outer s H args us vs Q E hr e0 hb r hsp=>?_⟩
 have hl:=len _ _ _ _ hsp
 have KX:K.In s.heap:=e0.mod.kin.keeps fun b o e=>(e0.bs b o e).1
 have lim:s.heap.NoLimit:=e0.mod.nolimit.keeps fun b o e=>(e0.bs b o e).1
 have hkind:∀y∈ps.zip us,scope.names.lookup y.1=some .local\/(scope.names.lookup y.1=some .cell/\((cellsFrom (s.heap.objs.size+1) scope.names []).lookup y.1).isSome=true):=fun ⟨n,v⟩ hy=>by
   rcases S.par n (yek hy).1 with q | q
   . exact .inl q
   . exact .inr ⟨q,PySem.W.cellsFrom_some _ _ _ (.inl q)⟩
 refine codeAny_call_function hr.depth (KX _ _ lk) rfl S.co S.gen rfl (PySem.W.codeRec_of KX hcd) (hb _ _ _ _ ?_)
 refine wpAny_newFunctionEnv_cells S.kind hkind fun env he s1 x=>?_
 subst he
 refine ⟨lim.keeps x.toInCall.keep,codeAny_func ?_⟩
 obtain ⟨t,ht,hq⟩:=hbody A outer s H vs Q E (hr.deeper _) hsp
 have I:Inv (qgS CX P w K mg base N qual scope f cdv A outer s H E) [] (qgs N vs) H s1:=qkL S hr.hd e0 hl r x
 refine wpAny_mono (ht [] s1 (qgs N vs) H _ I hq) (fun fl s' hs=>?_) fun e s' hs=>hs
 have fin:∀{σ':St} {H':Hp} {v:V} {u:Value},Inv (qgS CX P w K mg base N qual scope f cdv A outer s H E) [] σ' H' s'->qbg v u->Q v H'->CE outer P w H s Q u s' :=
   fun {σ' H' v u} J rv q=>⟨v,H',J.os,J.bare,J.base,J.hok,rv,q⟩
 cases fl with
 | ret u =>
   obtain ⟨v,σ',H',J,rv,q⟩:=hs
   exact fin J rv q
 | next =>
   obtain ⟨σ',H',J,q⟩:=hs
   exact fin (v:=V.non) (u:=Value.none) J rfl q
 | brk =>
   obtain ⟨_,_,_,q⟩:=hs
   exact False.elim q
 | cont =>
   obtain ⟨_,_,_,q⟩:=hs
   exact False.elim q
end L2
namespace L2
open PySem PySem.Spec PyProof.Rows
section
variable {X:Cx} {x:Str} {p pos:Pos} {e:Expr} {es:List Expr} {t:TA} {id T:String} {r:List V->Hp->VK->Prop}
def tCB (r:List V->Hp->VK->Prop) (t:TA):TE:=fun σ H Q=>t σ H fun vs H1=>r vs H1 Q
def qat (hc:qcl X (.builtin id) r) (hg:Gl X x) (hm:X.mg x=none) (hv:bootBuiltins x=some (.builtin id)) (ha:PA X (e::es) t) (hn:x ≠ "__name__" := by decide) (hdb:(x==("__debug__" : Str))=false:=by decide)
   (he:starEach (e::es) X.env=(false,eval e X.env)::starEach es X.env:=by rfl) (hpl:(backTo pos (starEach es X.env)).any (·.1)=false:=by rfl):PE X (.Call (.Name x p) (e::es) [] pos) (tCB r t):=by
 intro pins s σ H Q I h
 refine wpAny_Call_Name_kw (qhu I hg hm hv ?_ hn hdb)
 exact PyProof.Rows.callWith_builtin1 (thn (ha pos pins s σ H _ I h) fun us s1 ⟨vs,H1,I1,r1,q1⟩=>hc pins s1 σ H1 vs us Q I1 r1 q1) he hpl
def qcw (hc:qcl X (.type T) r) (hg:Gl X x) (hm:X.mg x=none) (hv:bootBuiltins x=some (.type T)) (ha:PA X (e::es) t) (hn:x ≠ "__name__" := by decide) (hdb:(x==("__debug__" : Str))=false:=by decide)
   (he:starEach (e::es) X.env=(false,eval e X.env)::starEach es X.env:=by rfl) (hpl:(backTo pos (starEach es X.env)).any (·.1)=false:=by rfl):PE X (.Call (.Name x p) (e::es) [] pos) (tCB r t):=by
 intro pins s σ H Q I h
 refine wpAny_Call_Name_kw (qhu I hg hm hv ?_ hn hdb)
 exact PyProof.Rows.callWith_type1 (thn (ha pos pins s σ H _ I h) fun us s1 ⟨vs,H1,I1,r1,q1⟩=>hc pins s1 σ H1 vs us Q I1 r1 q1) he hpl
end
end L2
namespace HT
open PySem PyProof.Rows
section
open PySem.SeqAt
open PySem.AutoSeq1 (wpAny_loadPart')
open PySem.MeetsSeq PySem.MeetsSeq2 PySem.MeetsSeq3
end
section
variable {prog:Program} {w:World} {A:Around} {E:Value->Shared->Prop} {s:Shared}
def sIx (n d:Nat):Option Int->Nat
 | none=>d
 | some v=>if v<0 then (v+(n:Int)).toNat else min v.toNat n
def sIx_nat (n d k:Nat):sIx n d (some (k:Int))=min k n:=by
 show (if (k:Int)<0 then ((k:Int)+(n:Int)).toNat else min (k:Int).toNat n)=min k n
 rw [if_neg (by omega),yer]
end
end HT
namespace L2
open PySem PySem.Spec PyProof.Rows
abbrev TO:=St->Hp->(Option Int->Hp->Prop)->Prop
def PO (X:Cx) (e:Option Expr) (t:TO):Prop :=
 ∀(pins:List (Addr×Obj)) (s:Shared) (σ:St) (H:Hp) (Q:Option Int->Hp->Prop),Inv X pins σ H s->t σ H Q ->
   wpAny (model X.prog X.w) X.A (evalPart e X.env) (fun u s'=>∃o H',Inv X pins σ H' s'/\IsPart u o/\Q o H') X.xe s
def qlg:TO:=fun _ H Q=>Q none H
def qrd (t:TE):TO:=fun σ H Q=>t σ H fun x H1=>∃i,x = .int i/\Q (some i) H1
def qfY {ns:List Int}:∀{us:List Value},qaV (ns.map V.int) us->IntsAre us ns:=by
 induction ns with
 | nil=>intro us r;rw [yet] at r;cases r;exact .nil
 | cons n ns ih =>
   intro us r
   rw [ycw] at r
   cases r with
   | cons r1 r2 =>
     obtain ⟨t,e⟩:=r1
     subst e
     exact .cons n t (ih r2)
section
variable {X:Cx} {e:Expr} {te:TE} {lo hi:Option Expr} {tl th:TO} {pos p2:Pos}
def qfe:PO X none qlg:=by
 intro pins s σ H Q I h
 rw [evalPart_none]
 exact wpAny_pure ⟨none,H,I,.none,h⟩
def qdd (h:PE X e te):PO X (some e) (qrd te):=by
 intro pins s σ H Q I hw
 rw [evalPart_some]
 refine thn (h pins s σ H _ I hw) fun u s1 ⟨x,H1,I1,r1,q1⟩=>?_
 obtain ⟨i,rfl,q⟩:=q1
 obtain ⟨t,rfl⟩:=r1
 exact ⟨some i,H1,I1,.int i t,q⟩
def SlR (X:Cx) (r:V->Option Int->Option Int->Hp->VK->Prop):Prop :=
 ∀(pins:List (Addr×Obj)) (s:Shared) (σ:St) (H:Hp) (x:V) (v vl vu:Value) (lo hi:Option Int) (sl:Addr) (Q:VK),Inv X pins σ H s->qbg x v->s.heap.IsSliceOf sl vl vu .none->IsPart vl lo->IsPart vu hi->r x lo hi H Q ->
   ∃T id,typeLookup (.type T) "__getitem__" = pure (some (.builtin id))/\s.TypeIs v T/\wpAny (model X.prog X.w) X.A (getItem v (.ref sl)) (EP X pins σ Q) X.xe s
def tSl (r:V->Option Int->Option Int->Hp->VK->Prop) (te:TE) (tl th:TO):TE:=fun σ H Q=>te σ H fun x H1=>tl σ H1 fun l H2=>th σ H2 fun u H3=>r x l u H3 Q
def qcQ {r:V->Option Int->Option Int->Hp->VK->Prop} (hr:SlR X r) (he:PE X e te) (hl:PO X lo tl) (hu:PO X hi th):PE X (.Subscript e (.Slice lo hi none p2) pos) (tSl r te tl th):=by
 intro pins s σ H Q I h
 refine Subscript_ (thn (he pins s σ H _ I h) fun v s1 ⟨x,H1,I1,r1,q1⟩=>?_)
 refine wpAny_Slice (thn (hl pins s1 σ H1 _ I1 q1) fun vl s2 ⟨l,H2,I2,pl,q2⟩=>thn (hu pins s2 σ H2 _ I2 q2) fun vu s3 ⟨u,H3,I3,pu,q3⟩=>?_)
 rw [evalPart_none]
 refine wpAny_pure ?_
 have I4:Inv X pins σ H3 { s3 with heap:=s3.heap.push { cls := .type "slice",data := .fields #[vl,vu,.none] } }:=I3.kept (t':=s3.toks) fun b ob q=>yde _ q
 obtain ⟨T,id,hT,ht,hg⟩:=hr pins { s3 with heap:=s3.heap.push { cls := .type "slice",data := .fields #[vl,vu,.none] } } σ H3 x v vl vu l u s3.heap.objs.size Q I4 r1 (Heap.IsSliceOf.new ..) pl pu q3
 show wpAny (model X.prog X.w) X.A (subscriptTail e (.Slice lo hi none p2) v (.ref s3.heap.objs.size)) (EP X pins σ Q) X.xe { s3 with heap:=s3.heap.push { cls := .type "slice",data := .fields #[vl,vu,.none] } }
 exact tail_any (ops:=[.ref s3.heap.objs.size,v]) ht hT hg (by with_unfolding_all rfl)
def qjG (xs:List V) (lo hi:Option Int):List V:=(xs.drop (HT.sIx xs.length 0 lo)).take (HT.sIx xs.length xs.length hi-HT.sIx xs.length 0 lo)
def qhN (xs:List V) (lo hi:Option Int):(qjG xs lo hi).length<=xs.length:=by
 unfold qjG
 rw [yem,ycm]
 omega
end
end L2
namespace L2
open PySem PySem.Spec PyProof.Rows
def ixN (n:Nat) (i:Int):Option Nat:=if 0<=i then (if i<n then some i.toNat else none) else if -(n:Int)<=i then some (i+n).toNat else none
def atI {α:Type} (xs:List α) (i:Int):Option α:=(ixN xs.length i).bind fun j=>xs[j]?
def qkP {n:Nat} {i:Int} {j:Nat} (h:ixN n i=some j):seqIndex? i n=some j/\j<n/\-(n:Int)<=i/\i<n:=by
 unfold ixN at h
 by_cases h0:0<=i
 . rw [if_pos h0] at h
   by_cases h1:i<n
   . rw [if_pos h1] at h
     have e:i.toNat=j:=Option.some.inj h
     exact ⟨by rw [seqIndex_of h0 h1,e],by omega,by omega,h1⟩
   . rw [if_neg h1] at h;cases h
 . rw [if_neg h0] at h
   by_cases h1:-(n:Int)<=i
   . rw [if_pos h1] at h
     have e:(i+n).toNat=j:=Option.some.inj h
     exact ⟨by rw [seqIndex_neg (by omega) h1,e],by omega,h1,by omega⟩
   . rw [if_neg h1] at h;cases h
def qh6 {α:Type} {xs:List α} {i:Int} {v:α} (h:atI xs i=some v):∃j,seqIndex? i xs.length=some j/\xs[j]?=some v/\j<xs.length/\-(xs.length:Int)<=i/\i<xs.length:=by
 unfold atI at h
 cases e:ixN xs.length i with
 | none=>rw [e] at h;cases h
 | some j =>
   rw [e] at h
   obtain ⟨h1,h2,h3,h4⟩:=qkP e
   exact ⟨j,h1,h,h2,h3,h4⟩
def qdP {α:Type} {xs:List α} {j:Nat} {v:α} (h:xs[j]?=some v):atI xs (j:Int)=some v:=by
 have hj:j<xs.length:=(ycd.mp h).1
 have e:ixN xs.length (j:Int)=some j:=by
   unfold ixN
   rw [if_pos (by omega),if_pos (by omega)];simp
 unfold atI;rw [e];exact h
def qoT (b:Expr):Prop:=∀o i,subscripted b false o i=operate [o,i] (getItem o i)
def IxR (X:Cx) (r:R2):Prop :=
 ∀(value slice:Expr) (pins:List (Addr×Obj)) (s:Shared) (σ:St) (H:Hp) (x y:V) (v u:Value) (Q:VK),Inv X pins σ H s->qbg x v->qbg y u->r x y H Q ->
   subscripted slice false v u=operate [v,u] (getItem v u)->wpAny (model X.prog X.w) X.A (subscriptTail value slice v u) (EP X pins σ Q) X.xe s
def MtR (X:Cx) (id:String) (r:V->List V->Hp->VK->Prop):Prop :=
 ∀(pins:List (Addr×Obj)) (s:Shared) (σ:St) (H:Hp) (x:V) (xs:List V) (v:Value) (us:List Value) (Q:VK),Inv X pins σ H s->qbg x v->qaV xs us->r x xs H Q ->
   wpAny (model X.prog X.w) X.A (call (.builtin id) (v::us)) (EP X pins σ Q) X.xe s
section
variable {X:Cx} {a b:Expr} {ta tb:TE} {pos:Pos}
def IxR.or {r r':R2} (h:IxR X r) (h':IxR X r'):IxR X (fun x y H Q=>r x y H Q\/r' x y H Q):=by
 intro value slice pins s σ H x y v u Q I rx ry q hs
 rcases q with q | q
 . exact h value slice pins s σ H x y v u Q I rx ry q hs
 . exact h' value slice pins s σ H x y v u Q I rx ry q hs
def qbf {r:R2} (hr:IxR X r) (ha:PE X a ta) (hb:PE X b tb) (hs:qoT b):PE X (.Subscript a b pos) (tOp r ta tb):=by
 intro pins s σ H Q I h
 exact Subscript_ (qrL ha hb I h fun v u s2 x y H2 I2 rx ry q=>hr a b pins s2 σ H2 x y v u Q I2 rx ry q (hs _ _))
def qsX (K:PySem.W.Frag):R2:=fun x y H Q=>∃p xs i v,x = .ref p/\y = .int i/\SqL K H p xs/\atI xs i=some v/\Q v H
def qsI (K:PySem.W.Frag):R2:=fun x y H Q=>∃p xs i v,x = .ref p/\y = .int i/\SqT K H p xs/\atI xs i=some v/\Q v H
def qsK:R2:=fun x y H Q=>∃z i c,x = .str z/\y = .int i/\z.length<=sizeLine/\atI z.cps.toList i=some c/\Q (.str ⟨#[c]⟩) H
def qom:IxR X (qsX X.K):=by
 intro value slice pins s σ H x y v u Q I rx ry h hs
 obtain ⟨p,xs,i,z,rfl,rfl,hq,he,q⟩:=h
 cases rx
 obtain ⟨t,rfl⟩:=ry
 obtain ⟨its,r,pl,hz⟩:=I.list hq
 obtain ⟨j,h1,h2,h3,h4,h5⟩:=qh6 he
 obtain ⟨w,ew,rw'⟩:=r.get h2
 have hl:=r.length
 have hn:=qfM
 have fin:EP X pins σ Q w s:=⟨z,H,I,rw',q⟩
 by_cases h0:0<=i
 . have hj:i.toNat=j:=by
     rw [seqIndex_of h0 h5] at h1
     exact Option.some.inj h1
   exact item_listR pl.isList h0 (by omega) (by rw [hj];simpa using ew) fin hs
 . have hj:(i+(its.toArray.size:Int)).toNat=j:=by
     rw [seqIndex_neg (by omega) h4] at h1
     rw [yeu,<-hl]
     exact Option.some.inj h1
   exact subscriptTail_builtinR (x:=w) pl.isList.typeIs slot_list_getitem.lookup
     (wpAny_getItem_list_neg (Q:=fun r s'=>r=w/\EP X pins σ Q r s') pl.isList (by omega) (by rw [yeu]<;>omega) (by omega) (by rw [hj];simpa using ew) ⟨rfl,fin⟩) hs
def qp0:IxR X (qsI X.K):=by
 intro value slice pins s σ H x y v u Q I rx ry h hs
 obtain ⟨p,xs,i,z,rfl,rfl,hq,he,q⟩:=h
 cases rx
 obtain ⟨t,rfl⟩:=ry
 obtain ⟨its,r,pl,hz⟩:=I.tuple hq
 obtain ⟨j,h1,h2,h3,h4,h5⟩:=qh6 he
 obtain ⟨w,ew,rw'⟩:=r.get h2
 have hl:=r.length
 have hn:=qfM
 have fin:EP X pins σ Q w s:=⟨z,H,I,rw',q⟩
 exact subscriptTail_builtinR (x:=w) pl.typeIs slot_tuple_getitem.lookup
   (getItem_tuple (j:=j) (Q:=fun r s'=>r=w/\EP X pins σ Q r s') pl (by omega) (by omega) (by rw [yeu,<-hl];exact h1) (by simpa using ew) ⟨rfl,fin⟩) hs
def qri:IxR X qsK:=by
 intro value slice pins s σ H x y v u Q I rx ry h hs
 obtain ⟨z,i,c,rfl,rfl,hz,he,q⟩:=h
 obtain ⟨t,rfl⟩:=rx
 obtain ⟨t',rfl⟩:=ry
 obtain ⟨j,h1,h2,h3,h4,h5⟩:=qh6 he
 have hl:z.cps.toList.length=z.length:=by simp [Str.length]
 rw [hl] at h1 h4 h5
 have hn:=qfM
 exact tail_any (typeIs_str s z t) slot_str_getitem.lookup (getItem_str (c:=c) (by
   have e1:decide (i < -(2^63:Int))=false:=decide_eq_false (by omega)
   have e2:decide (i≥2^63)=false:=decide_eq_false (by omega)
   rw [e1,e2,ydx]) (by rw [h1];simpa using h2) ⟨.str ⟨#[c]⟩,H,I.tok _,⟨_,rfl⟩,q⟩) hs
def rIx (K:PySem.W.Frag):R2:=fun x y H Q=>qsX K x y H Q\/qsI K x y H Q\/qsK x y H Q
def qqC:IxR X (rIx X.K):=qom.or (qp0.or qri)
def qje (its:List Value) (n j:Nat) (u:Value):Obj.mapSeq (·.setIfInBounds j u) { cls := .type "list",data := .seq its.toArray n }={ cls := .type "list",data := .seq (its.set j u).toArray n }:=by
 simp [Obj.mapSeq]
def Inv.lst {pins:List (Addr×Obj)} {σ:St} {H:Hp} {s:Shared} {p:Addr} {xs:List V} (I:Inv X pins σ H s) (h:H p=some (.lst xs)) :
   ∃(its:List Value) (n:Nat),qaV xs its/\s.heap.get? p=some { cls := .type "list",data := .seq its.toArray n }/\xs.length<=sizeLine:=by
 obtain ⟨z,its,n,r,e⟩:=I.hok p _ h
 exact ⟨its,n,r,e,z⟩
def Inv.lstUpd {pins:List (Addr×Obj)} {σ:St} {H:Hp} {s:Shared} {p:Addr} {xs ys:List V} {its its':List Value} {n n':Nat} {f:Obj->Obj} (I:Inv X pins σ H s) (h:H p=some (.lst xs))
   (ho:s.heap.get? p=some { cls := .type "list",data := .seq its.toArray n }) (hf:f { cls := .type "list",data := .seq its.toArray n }={ cls := .type "list",data := .seq its'.toArray n' }) (r:qaV ys its') (hz:ys.length<=sizeLine) (t:Nat) :
   Inv X pins σ (upd H p (.lst ys)) { s with heap:=s.heap.update p f,toks:=t }:=by
 have e:(s.heap.update p f).get? p=some { cls := .type "list",data := .seq its'.toArray n' }:=by
   rw [yda f ho (by rw [hf]<;>rfl),hf]
 refine I.write (x:=p) (e:=p) (by rw [h];trivial) (.inl rfl) (fun b u hb q=>(ydq _ _ (Ne.symm hb)).trans q) ⟨_,e⟩ ?_
 exact ⟨hz,its',n',r,e⟩
def qsu:V->V->V->Hp->(Hp->Prop)->Prop:=fun o i v H Q=>∃p xs k j,o = .ref p/\i = .int k/\H p=some (.lst xs)/\ixN xs.length k=some j/\Q (upd H p (.lst (xs.set j v)))
def qlX:qsZ X qsu:=by
 intro pins s σ H o i v ov iv u Q I ro ri rv h
 obtain ⟨p,xs,k,j,rfl,rfl,hp,hj,q⟩:=h
 cases ro
 obtain ⟨t,rfl⟩:=ri
 obtain ⟨its,n,r,ho,hz⟩:=I.lst hp
 obtain ⟨h1,h2,h3,h4⟩:=qkP hj
 have hl:=r.length
 have hn:=qfM
 have I':Inv X pins σ (upd H p (.lst (xs.set j v))) { s with heap:=s.heap.update p (Obj.mapSeq (·.setIfInBounds j u)) } :=
   I.lstUpd hp ho (qje its n j u) (r.set rv j) (by rw [yev];exact hz) s.toks
 by_cases h0:0<=k
 . have hk:k.toNat=j:=by
     rw [seqIndex_of h0 h4] at h1
     exact Option.some.inj h1
   exact PySem.W.ki_setAt ho h0 (by omega) (by rw [yeu,<-hl];exact h4) (by rw [hk];exact ⟨_,I',q⟩)
 . have hk:(k+(its.toArray.size:Int)).toNat=j:=by
     rw [seqIndex_neg (by omega) h3] at h1
     rw [yeu,<-hl]
     exact Option.some.inj h1
   exact PySem.W.ki_setBack ho (by omega) (by rw [yeu,<-hl];exact h3) (by omega) (by rw [hk];exact ⟨_,I',q⟩)
def qhA (lo hi:Option Int) (n:Nat):(sliceBounds lo hi none n).1=((HT.sIx n 0 lo:Nat):Int)/\(sliceBounds lo hi none n).2.1=((HT.sIx n n hi:Nat):Int)/\(sliceBounds lo hi none n).2.2=1:=by
 refine ⟨?_,?_,rfl⟩
 . cases lo with
   | none=>simp [sliceBounds,HT.sIx]
   | some i =>
     simp only [sliceBounds,HT.sIx,Option.getD_none,show (1:Int)>0 by decide,if_true]
     by_cases h:i<0
     . simp only [h,if_true]<;>omega
     . simp only [h,if_false]<;>omega
 . cases hi with
   | none=>simp [sliceBounds,HT.sIx]
   | some i =>
     simp only [sliceBounds,HT.sIx,Option.getD_none,show (1:Int)>0 by decide,if_true]
     by_cases h:i<0
     . simp only [h,if_true]<;>omega
     . simp only [h,if_false]<;>omega
def qgC (its:List Value) (lo hi:Option Int):slicePick its.toArray lo hi none=((its.drop (HT.sIx its.length 0 lo)).take (HT.sIx its.length its.length hi-HT.sIx its.length 0 lo)).toArray:=by
 obtain ⟨h1,h2,h3⟩:=qhA lo hi its.toArray.size
 unfold slicePick
 rw [h1,h2,h3]
 simp only [sliceRange_one,pick_run,yeu]<;>rfl
def qsU (K:PySem.W.Frag):V->Option Int->Option Int->Hp->VK->Prop:=fun x lo hi H Q=>∃a xs,x = .ref a/\SqL K H a xs/\∀p,H p=none->Q (.ref p) (upd H p (.lst (qjG xs lo hi)))
def qn2:SlR X (qsU X.K):=by
 intro pins s σ H x v vl vu lo hi sl Q I rx hs pl pu h
 obtain ⟨a,xs,rfl,hx,q⟩:=h
 cases rx
 obtain ⟨its,r,ht,hz⟩:=I.list hx
 have hlen:=r.length
 refine ⟨"list",_,slot_list_getitem.lookup,ht.isList.typeIs,?_⟩
 refine wpAny_getItem_list_slice ht.isList hs pl pu .none (by simp) ?_ (by rw [yeu]<;>omega)
 rw [qgC,<-hlen]
 refine ⟨.ref s.heap.objs.size,_,I.laid (t':=s.toks) (o := .lst (qjG xs lo hi)) (fun b ob q=>yde _ q) (yax _) ?_,rfl,q _ (I.hok.fresh (yax _))⟩
 exact ⟨ycf (qhN xs lo hi) hz,_,0,(r.drop (HT.sIx xs.length 0 lo)).take (HT.sIx xs.length xs.length hi-HT.sIx xs.length 0 lo),ydd _ rfl⟩
def qbL:V->Bool
 | .non=>true
 | .bl _=>true
 | .int _=>true
 | .str _=>true
 | _=>false
def eqV:V->V->Bool
 | .non,.non=>true
 | .bl a,.bl b=>a==b
 | .bl a,.int b=>(if a then 1 else 0)==b
 | .int a,.bl b=>a==(if b then 1 else 0)
 | .int a,.int b=>a==b
 | .str a,.str b=>a==b
 | _,_=>false
def qno {A:Around} {s:Shared} {y x:V} {u v:Value} (ry:qbg y u) (rx:qbg x v) (fy:qbL y=true) (fx:qbL x=true):SeqAt.EqAt A s u v (eqV y x):=by
 cases y with
 | non =>
   cases ry
   cases x with
   | non=>cases rx;exact SeqAt.EqAt.same _
   | bl b=>cases rx;exact SeqAt.EqAt.none_bool b
   | int b=>obtain ⟨t,rfl⟩:=rx;exact SeqAt.EqAt.none_int b t
   | str b=>obtain ⟨t,rfl⟩:=rx;exact SeqAt.EqAt.none_str b t
   | _=>exact absurd (show false=true from fx) yeh
 | bl a =>
   cases ry
   cases x with
   | non=>cases rx;exact SeqAt.EqAt.bool_none a
   | bl b=>cases rx;exact SeqAt.EqAt.bool_bool a b
   | int b=>obtain ⟨t,rfl⟩:=rx;exact SeqAt.EqAt.bool_int a b t
   | str b=>obtain ⟨t,rfl⟩:=rx;exact SeqAt.EqAt.bool_str a b t
   | _=>exact absurd (show false=true from fx) yeh
 | int a =>
   obtain ⟨t',rfl⟩:=ry
   cases x with
   | non=>cases rx;exact SeqAt.EqAt.int_none a t'
   | bl b=>cases rx;exact SeqAt.EqAt.int_bool a t' b
   | int b=>obtain ⟨t,rfl⟩:=rx;exact SeqAt.EqAt.int_int a t' b t
   | str b=>obtain ⟨t,rfl⟩:=rx;exact SeqAt.EqAt.int_str a t' b t
   | _=>exact absurd (show false=true from fx) yeh
 | str a =>
   obtain ⟨t',rfl⟩:=ry
   cases x with
   | non=>cases rx;exact SeqAt.EqAt.str_none a t'
   | bl b=>cases rx;exact SeqAt.EqAt.str_bool a t' b
   | int b=>obtain ⟨t,rfl⟩:=rx;exact SeqAt.EqAt.str_int a t' b t
   | str b=>obtain ⟨t,rfl⟩:=rx;exact SeqAt.EqAt.str_str a t' b t
   | _=>exact absurd (show false=true from fx) yeh
 | _=>exact absurd (show false=true from fy) yeh
def eqU (x:V) (u:Value):Bool:=match u with
 | .none=>eqV .non x
 | .bool b=>eqV (.bl b) x
 | .int i _=>eqV (.int i) x
 | .str z _=>eqV (.str z) x
 | _=>false
def qnN {x y:V} {u:Value} (r:qbg y u) (f:qbL y=true):eqU x u=eqV y x:=by
 cases y with
 | non=>cases r;rfl
 | bl b=>cases r;rfl
 | int i=>obtain ⟨t,rfl⟩:=r;rfl
 | str z=>obtain ⟨t,rfl⟩:=r;rfl
 | _=>exact absurd (show false=true from f) yeh
def qhZ {x:V}:∀{xs:List V} {us:List Value},qaV xs us->xs.all qbL=true->us.any (eqU x)=xs.any fun y=>eqV y x
 | _,_,.nil,_=>rfl
 | y::xs,u::us,.cons r t,f=>by
   rw [List.all_cons,yab] at f
   rw [yew,yew,qnN r f.1,qhZ t f.2]
def qf4 {A:Around} {s:Shared} {x:V} {v:Value} (rx:qbg x v) (fx:qbL x=true):∀{xs:List V} {us:List Value},qaV xs us->xs.all qbL=true->∀u∈us,SeqAt.EqAt A s u v (eqU x u)
 | _,_,.nil,_=>fun u hu=>by cases hu
 | y::xs,u::us,.cons r t,f=>fun u' hu=>by
   rw [List.all_cons,yab] at f
   rcases ybd.mp hu with rfl | hu
   . rw [qnN r f.1];exact qno r rx f.1 fx
   . exact qf4 rx fx t f.2 u' hu
def inV (x:V) (xs:List V):Bool:=xs.any fun y=>eqV y x
def rIn (K:PySem.W.Frag) (neg:Bool):R2:=fun x y H Q=>∃p xs,y = .ref p/\(SqL K H p xs\/SqT K H p xs)/\qbL x=true/\xs.all qbL=true/\Q (.bl (if neg then !inV x xs else inV x xs)) H
def qg6:OpR X (compareOp .NotIn) (rIn X.K true):=by
 intro pins s σ H x y v u Q I rx ry h
 obtain ⟨p,xs,rfl,hq,fx,fs,q⟩:=h
 cases ry
 rcases hq with hq | hq
 . obtain ⟨its,r,pl,hz⟩:=I.list hq
   refine SeqAt.notIn_listAt (eqU x) pl.isList (fun w hw=>qf4 rx fx r fs w (by simpa using hw)) ⟨.bl _,H,I,rfl,?_⟩
   rw [show its.toArray.any (eqU x)=its.any (eqU x) by simp,qhZ r fs]
   exact q
 . obtain ⟨its,r,pl,hz⟩:=I.tuple hq
   refine SeqAt.notIn_tupleAt (eqU x) pl (fun w hw=>qf4 rx fx r fs w (by simpa using hw)) ⟨.bl _,H,I,rfl,?_⟩
   rw [show its.toArray.any (eqU x)=its.any (eqU x) by simp,qhZ r fs]
   exact q
def qhF:qcl X (.builtin "len") (fun xs H Q=>∃p ys,xs=[.ref p]/\(SqL X.K H p ys\/SqT X.K H p ys)/\Q (.int ys.length) H):=by
 intro pins s σ H xs us Q I r h
 obtain ⟨p,ys,rfl,hq,q⟩:=h
 obtain ⟨u,rfl,rx⟩:=qek r
 cases rx
 have hn:=qfM
 rcases hq with hq | hq
 . obtain ⟨its,r',pl,hz⟩:=I.list hq
   have hlen:=r'.length
   exact Calls.call_len_list pl.isList (by simp only [yeu]<;>omega) ⟨.int ys.length,H,I.tok _,⟨s.toks+1,by rw [yeu,hlen]⟩,q⟩
 . obtain ⟨its,r',pl,hz⟩:=I.tuple hq
   have hlen:=r'.length
   exact len_tuple pl (by simp only [yeu]<;>omega) ⟨.int ys.length,H,I.tok _,⟨s.toks+1,by rw [yeu,hlen]⟩,q⟩
def qhe:qcl X (.builtin "len") (fun xs H Q=>∃z,xs=[.str z]/\z.length<=sizeLine/\Q (.int z.length) H):=by
 intro pins s σ H xs us Q I r h
 obtain ⟨z,rfl,hz,q⟩:=h
 obtain ⟨u,rfl,t,rfl⟩:=qek r
 have hn:=qfM
 exact len_str (by omega) ⟨.int z.length,H,I.tok _,⟨_,rfl⟩,q⟩
def tyV (K:PySem.W.Frag) (T:String) (x:V) (H:Hp):Prop:=match x with
 | .str _=>T = "str"
 | .int _=>T = "int"
 | .ref p=>(T = "list" /\ ∃xs,SqL K H p xs)\/(T = "tuple" /\ ∃o,K.lookup p=some o/\o.cls = .type "tuple" /\ o.dict=none) \/
     (T = "dict" /\ ((∃kvs,H p=some (.dK kvs))\/∃kvs,H p=some (.dT kvs)))\/(T = "set" /\ ∃S n,H p=some (.set S n))
 | _=>False
def qk7 {pins:List (Addr×Obj)} {σ:St} {H:Hp} {s:Shared} {T:String} {x:V} {v:Value} (I:Inv X pins σ H s) (r:qbg x v) (ty:tyV X.K T x H) :
   s.TypeIs v T/\∀a,v = .ref a->∃ob,s.heap.get? a=some ob/\ob.dict=none:=by
 cases x with
 | str z =>
   obtain ⟨t,rfl⟩:=r
   cases (show T = "str" from ty)
   exact ⟨typeIs_str s z t,fun _ e=>nomatch e⟩
 | int i =>
   obtain ⟨t,rfl⟩:=r
   cases (show T = "int" from ty)
   exact ⟨typeIs_int s i t,fun _ e=>nomatch e⟩
 | ref p =>
   cases r
   rcases ty with ⟨rfl,xs,hq⟩ | ⟨rfl,o,hk,hc,hd⟩ | ⟨rfl,hk⟩ | ⟨rfl,S,n,hk⟩
   . obtain ⟨its,_,pl,_⟩:=I.list hq
     refine ⟨pl.isList.typeIs,fun a e=>?_⟩
     cases e
     obtain ⟨o,n,e,c,hd,_⟩:=pl
     exact ⟨o,e,hd⟩
   . refine ⟨⟨o,I.kIn p o hk,hc⟩,fun a e=>?_⟩
     cases e
     exact ⟨o,I.kIn _ o hk,hd⟩
   . have z:∃o,s.heap.get? p=some o/\o.ExactDict:=by
       rcases hk with ⟨kvs,hk⟩ | ⟨kvs,hk⟩
       . obtain ⟨_,_,_,_,o,_,_,e,ex,_⟩:=I.hok p _ hk
         exact ⟨o,e,ex⟩
       . obtain ⟨_,_,_,_,o,_,_,e,ex,_⟩:=I.hok p _ hk
         exact ⟨o,e,ex⟩
     obtain ⟨o,e,ex⟩:=z
     refine ⟨⟨o,e,ex.1⟩,fun a e2=>?_⟩
     cases e2
     exact ⟨o,e,ex.2.1⟩
   . obtain ⟨o,_,_,_,e,ex,_⟩:=I.hok p _ hk
     refine ⟨⟨o,e,ex.1⟩,fun a e2=>?_⟩
     cases e2
     exact ⟨o,e,ex.2.1⟩
 | _=>exact False.elim ty
def qsO (K:PySem.W.Frag) (T:String) (r:V->List V->Hp->VK->Prop) (to:TE):TE:=fun σ H Q=>to σ H fun x H1=>tyV K T x H1/\r x [] H1 Q
def tBM (K:PySem.W.Frag) (T:String) (r:V->List V->Hp->VK->Prop) (to:TE) (t:TA):TE:=fun σ H Q=>to σ H fun x H1=>tyV K T x H1/\t σ H1 fun xs H2=>r x xs H2 Q
variable {o e:Expr} {es:List Expr} {to:TE} {t:TA} {name:Str} {apos cpos:Pos} {T id:String} {r:V->List V->Hp->VK->Prop}
def qp9 (pa:PlainAttrs T) (slot:Slot T name id) (hty:typeOf (.builtin id)=pure (.type "method_descriptor")) (hm:MtR X id r) (ho:PE X o to)
   (hbase:attributeBase o name X.env (eval o X.env)=eval o X.env:=by rfl) (hline:(apos.endLine==cpos.line)=true:=by rfl):PE X (.Call (.Attribute o name apos) [] [] cpos) (qsO X.K T r to):=by
 intro pins s σ H Q I h
 refine wpAny_Call_method0_late hbase hline (thn (ho pins s σ H _ I h) fun v s1 ⟨x,H1,I1,r1,ty,q1⟩=>?_)
 obtain ⟨h1,h2⟩:=qk7 I1 r1 ty
 exact ⟨T,id,pa,slot,hty,h1,h2,Calls.callWith_builtin rfl (PySem.evalArgs_none (hm pins s1 σ H1 x [] v [] Q I1 r1 .nil q1))⟩
def qdU (pa:PlainAttrs T) (slot:Slot T name id) (hty:typeOf (.builtin id)=pure (.type "method_descriptor")) (hm:MtR X id r) (ho:PE X o to) (ha:PA X (e::es) t)
   (hbase:attributeBase o name X.env (eval o X.env)=eval o X.env:=by rfl)
   (hfew:((backTo cpos (starEach (e::es) X.env)).all (fun x=>!x.1)&&(backToKw cpos (keywordEach [] X.env)).all (fun x=>x.1.isSome)
     && decide ((e::es).length+([]:List Keyword).length+(if ([]:List Keyword).isEmpty then 0 else 1)<30))=true:=by rfl)
   (hline:(apos.endLine==cpos.line)=true:=by rfl) (hs:starEach (e::es) X.env=(false,eval e X.env)::starEach es X.env:=by rfl) (hplain:(backTo cpos (starEach es X.env)).any (·.1)=false:=by rfl) :
   PE X (.Call (.Attribute o name apos) (e::es) [] cpos) (tBM X.K T r to t):=by
 intro pins s σ H Q I h
 refine wpAny_Call_method_late hbase hfew hline rfl (thn (ho pins s σ H _ I h) fun v s1 ⟨x,H1,I1,r1,ty,q1⟩=>?_)
 obtain ⟨h1,h2⟩:=qk7 I1 r1 ty
 refine ⟨T,id,pa,slot,hty,h1,h2,?_⟩
 have hA:=ha cpos pins s1 σ H1 _ I1 q1
 rw [hs] at hA ⊢
 refine Calls.callWith_builtin (by show (false||(backTo cpos (starEach es X.env)).any (·.1))=false;rw [hplain]<;>rfl) (Calls.evalArgs_plain ?_)
 exact thn hA fun us s2 ⟨vs,H2,I2,r2,q2⟩=>hm pins s2 σ H2 x vs v us Q I2 r1 r2 q2
end
end L2
namespace L2
open PySem PySem.Spec PyProof.Rows
def MtM (X:Cx) (id:String) (r:V->List V->Hp->VK->Prop):Prop :=
 ∀(pins:List (Addr×Obj)) (s:Shared) (σ:St) (H:Hp) (x:V) (xs:List V) (v:Value) (us:List Value) (Q:VK),Inv X pins σ H s->qbg x v->qaV xs us->r x xs H Q ->
   wpAny (model X.prog X.w) X.A (call (.builtin id) (v::us)) (EP X pins σ Q) X.xe s
def qaV.one:∀{x:V} {us:List Value},qaV [x] us->∃u,us=[u]/\qbg x u
 | _,_,.cons r .nil=>⟨_,rfl,r⟩
section
variable {X:Cx} {pins:List (Addr×Obj)} {σ:St} {H:Hp} {s:Shared} {l b:Addr} {xs ys zs:List V}
def Inv.lset {its its':List Value} {n:Nat} {f:Array Value->Array Value} {t':Nat} (I:Inv X pins σ H s) (hH:H l=some (.lst xs))
   (e:s.heap.get? l=some { cls := .type "list",data := .seq its.toArray n }) (hf:f its.toArray=its'.toArray) (hv:qaV ys its') (hz:ys.length<=sizeLine) :
   Inv X pins σ (upd H l (.lst ys)) { s with heap:=s.heap.update l (Obj.mapSeq f),toks:=t' }:=by
 have q:=PySem.IsL.update e f
 rw [hf] at q
 refine I.write (x:=l) (e:=l) (by rw [hH];exact trivial) (.inl rfl) (fun b' u hb hu=>(ydq s.heap (Obj.mapSeq f) (Ne.symm hb)).trans hu) ⟨_,q⟩ ?_
 exact ⟨hz,its',_,hv,q⟩
def Inv.lnew {its:List Value} {t':Nat} (I:Inv X pins σ H s) (hv:qaV ys its) (hz:ys.length<=sizeLine) :
   Inv X pins σ (upd H s.heap.objs.size (.lst ys)) { s with heap:=s.heap.push { cls := .type "list",data := .seq its.toArray },toks:=t' } :=
 I.laid (fun _ _ q=>yde _ q) (yax _) ⟨hz,its,0,hv,ydd _ rfl⟩
def Inv.fresh (I:Inv X pins σ H s):H s.heap.objs.size=none:=I.hok.fresh (yax _)
def Inv.lstM (I:Inv X pins σ H s) (hH:H l=some (.lst xs)):xs.length<=sizeLine/\∃(its:List Value) (n:Nat),qaV xs its/\xs.length=its.length/\s.heap.get? l=some { cls := .type "list",data := .seq its.toArray n }:=by
 obtain ⟨z,its,n,r,e⟩:=I.hok l _ hH
 exact ⟨z,its,n,r,r.length,e⟩
def qmQ {n:Nat} (h:n<=sizeLine):Builtin.List.listTooLong n=false:=by
 unfold Builtin.List.listTooLong
 exact decide_eq_false (by omega)
end
section
variable {X:Cx}
def qlv:V->List V->Hp->VK->Prop:=fun x vs H Q=>∃l xs y,x = .ref l/\vs=[y]/\H l=some (.lst xs)/\xs.length<sizeLine/\Q .non (upd H l (.lst (xs++[y])))
def qeY:MtM X "list.append" qlv:=by
 intro pins s σ H x vs v us Q I rx rv h
 obtain ⟨l,xs,y,rfl,rfl,hH,hz,q⟩:=h
 cases rx
 obtain ⟨u,rfl,ru⟩:=rv.one
 obtain ⟨z,its,n,r,hl,e⟩:=I.lstM hH
 refine call_meets F.slot_list_append ⟨_,e,rfl⟩ F.entry_list_append (F.args_list_append_2 _ _) (PySem.list_append l its.toArray n u (by rw [yeu];omega)) ⟨e,?_⟩
 refine ⟨.non,_,I.lset (its':=its++[u]) hH e (by simp) (r.append (.cons ru .nil)) ?_,rfl,q⟩
 rw [yby,yex]
 omega
def qpe:V->List V->Hp->VK->Prop:=fun x vs H Q=>∃l b xs zs,x = .ref l/\vs=[.ref b]/\H l=some (.lst xs)/\H b=some (.lst zs)/\xs.length+zs.length<=sizeLine/\Q .non (upd H l (.lst (xs++zs)))
def qk0:MtM X "list.extend" qpe:=by
 intro pins s σ H x vs v us Q I rx rv h
 obtain ⟨l,b,xs,zs,rfl,rfl,hH,hB,hz,q⟩:=h
 cases rx
 obtain ⟨u,rfl,ru⟩:=rv.one
 cases ru
 obtain ⟨z,its,n,r,hl,e⟩:=I.lstM hH
 obtain ⟨z2,its2,n2,r2,hl2,e2⟩:=I.lstM hB
 have hsz:its.toArray.size+its2.toArray.size<=sizeLine:=by rw [yeu,yeu];omega
 have hlong:¬(!its.toArray.isEmpty&&Builtin.List.listTooLong (its.toArray.size+its2.toArray.size))=true:=by
   rw [qmQ hsz,Bool.and_false]
   exact yeh
 refine call_meets F.slot_list_extend ⟨_,e,rfl⟩ F.entry_list_extend (F.args_list_extend_2 _ _)
   (AutoSeq1.list_extend_list_list_0 l its.toArray n b its2.toArray n2 hlong (by rw [yeu];omega) (by omega)) ⟨e,e2,?_⟩
 refine ⟨.non,_,I.lset (its':=its++its2) hH e (by simp) (r.append r2) ?_,rfl,q⟩
 rw [yby]
 omega
end
section
variable {prog:Program} {w:World} {A:Around} {E:Value->Shared->Prop} {s:Shared}
set_option maxRecDepth 100000 in
end
section
variable {X:Cx}
end
end L2
namespace L2
open PySem PySem.Spec PyProof.Rows
section
variable {κ:Type} [DecidableEq κ]
def qc5 (kvs:List (κ×V)) (k:κ):Option V:=(kvs.find? fun kv=>decide (kv.1=k)).map (·.2)
def qhM (kvs:List (κ×V)) (k:κ) (v:V):List (κ×V) :=
 if (kvs.any fun kv=>decide (kv.1=k))=true then kvs.map (fun kv=>if kv.1=k then (kv.1,v) else kv) else kvs++[(k,v)]
def qbu {p:κ×V} {r:List (κ×V)} {k:κ} (e:p.1=k):qc5 (p::r) k=some p.2:=by simp [qc5,yey,e]
def qbt {p:κ×V} {r:List (κ×V)} {k:κ} (e:¬p.1=k):qc5 (p::r) k=qc5 r k:=by simp [qc5,yey,e]
def qdj (k:κ):∀kvs:List (κ×V),(kvs.any fun kv=>decide (kv.1=k))=(qc5 kvs k).isSome
 | []=>rfl
 | p::r=>by
   rw [yew]
   by_cases e:p.1=k
   . simp only [qbu e,decide_eq_true e,Bool.true_or,Option.isSome_some]
   . rw [qbt e,decide_eq_false e,Bool.false_or];exact qdj k r
def qiQ (k j:κ) (y:V):∀kvs:List (κ×V),qc5 (kvs.map fun kv=>if kv.1=k then (kv.1,y) else kv) j=(qc5 kvs j).map fun x=>if j=k then y else x
 | []=>rfl
 | p::r=>by
   have ih:=qiQ k j y r
   rw [ycw]
   by_cases h:p.1=k
   . rw [if_pos h]
     by_cases e:p.1=j
     . rw [qbu (p:=(p.1,y)) e,qbu e,yez,if_pos (e.symm.trans h)]
     . rw [qbt (p:=(p.1,y)) e,qbt e,ih]
   . rw [if_neg h]
     by_cases e:p.1=j
     . rw [qbu (p:=p) e,qbu e,yez,if_neg (fun z=>h (e.trans z))]
     . rw [qbt (p:=p) e,qbt e,ih]
def qhm (k j:κ) (y:V):∀kvs:List (κ×V),qc5 kvs k=none->qc5 (kvs++[(k,y)]) j=if j=k then some y else qc5 kvs j
 | [],_=>by
   by_cases e:k=j
   . rw [if_pos e.symm];exact qbu (p:=(k,y)) e
   . rw [if_neg (fun z=>e z.symm)];exact qbt (p:=(k,y)) e
 | p::r,hn=>by
   rw [yfa]
   have hk:¬p.1=k:=fun z=>by rw [qbu z] at hn;cases hn
   rw [qbt hk] at hn
   have ih:=qhm k j y r hn
   by_cases e:p.1=j
   . rw [qbu e,qbu e,if_neg (fun z=>hk (e.trans z))]
   . rw [qbt e,qbt e,ih]
def qmF (kvs:List (κ×V)) (k j:κ) (y:V):qc5 (qhM kvs k y) j=if j=k then some y else qc5 kvs j:=by
 unfold qhM
 by_cases a:(kvs.any fun kv=>decide (kv.1=k))=true
 . rw [if_pos a,qiQ]
   rw [qdj] at a
   by_cases e:j=k
   . obtain ⟨x,hx⟩:=yel.mp a
     rw [if_pos e,e,hx,yez,if_pos rfl]
   . rw [if_neg e]
     cases qc5 kvs j with
     | none=>rfl
     | some x=>rw [yez,if_neg e]
 . rw [if_neg a]
   refine qhm k j y kvs ?_
   rw [qdj] at a
   cases q:qc5 kvs k with
   | none=>rfl
   | some x=>rw [q] at a;exact (a rfl).elim
def qeJ (kvs:List (κ×V)) (k:κ) (v:V):(qhM kvs k v).length<=kvs.length+1:=by
 unfold qhM
 split
 . rw [ybz];omega
 . rw [yby,yca,yfb];omega
def qhz.isSome_eq {o:Option V} {u:Option Value} (r:qhz o u):o.isSome=u.isSome:=by
 cases o with
 | none=>cases u with
   | none=>rfl
   | some _=>exact (show False from r).elim
 | some _=>cases u with
   | none=>exact (show False from r).elim
   | some _=>rfl
def KV.val {kvs:List (κ×V)} {vs:List (κ×Value)} (r:KV kvs vs) (k:κ):qhz (qc5 kvs k) (valueAt vs k):=by
 unfold KV at r
 induction r with
 | nil=>exact True.intro
 | @cons p q ps qs h t ih =>
   obtain ⟨h1,h2⟩:=h
   by_cases e:p.1=k
   . have e':q.1=k:=h1.symm.trans e
     have b:valueAt (q::qs) k=some q.2:=by simp [valueAt,yey,e']
     rw [qbu e,b];exact h2
   . have e':¬q.1=k:=fun z=>e (h1.trans z)
     have b:valueAt (q::qs) k=valueAt qs k:=by simp [valueAt,yey,e']
     rw [qbt e,b];exact ih
def KV.any {kvs:List (κ×V)} {vs:List (κ×Value)} (r:KV kvs vs) (k:κ):(kvs.any fun kv=>decide (kv.1=k))=vs.any fun kv=>decide (kv.1=k):=by
 unfold KV at r
 induction r with
 | nil=>rfl
 | cons h t ih=>rw [yew,yew,ih,h.1]
def KV.repl {kvs:List (κ×V)} {vs:List (κ×Value)} (r:KV kvs vs) (k:κ) {y:V} {u:Value} (ry:qbg y u) :
   KV (kvs.map fun kv=>if kv.1=k then (kv.1,y) else kv) (vs.map fun kv=>if kv.1=k then (kv.1,u) else kv):=by
 unfold KV at r ⊢
 induction r with
 | nil=>exact .nil
 | @cons p q ps qs h t ih =>
   rw [ycw,ycw]
   refine .cons ?_ ih
   obtain ⟨h1,h2⟩:=h
   by_cases e:p.1=k
   . rw [if_pos e,if_pos (h1.symm.trans e)];exact ⟨h1,ry⟩
   . rw [if_neg e,if_neg (fun z=>e (h1.trans z))];exact ⟨h1,h2⟩
def KV.put {kvs:List (κ×V)} {vs:List (κ×Value)} (r:KV kvs vs) (k:κ) {y:V} {u:Value} (ry:qbg y u):KV (qhM kvs k y) (stored vs k u):=by
 unfold qhM stored
 rw [r.any k]
 by_cases e:(vs.any fun kv=>decide (kv.1=k))=true
 . rw [if_pos e,if_pos e];exact r.repl k ry
 . rw [if_neg e,if_neg e];exact Paired.snoc r ⟨rfl,ry⟩
def KV.length {kvs:List (κ×V)} {vs:List (κ×Value)} (r:KV kvs vs):kvs.length=vs.length:=Paired.length r
end
def qjm {P:Program} {w:World} {k:Key} {u:Value} (r:qbg (kV k) u):(qa1 P w).is k u=true:=by
 cases k with
 | inl i=>obtain ⟨t,e⟩:=(show ∃t,u=Value.int i t from r);subst e;exact qil P w i t
 | inr x=>obtain ⟨t,e⟩:=(show ∃t,u=Value.str x t from r);subst e;exact qh7 P w x t
def qhq {P:Program} {w:World}:∀{ks:List Key} {us:List Value},qaV (ks.map kV) us->ItemsAre (qa1 P w) ks us
 | [],_,r=>by rw [yet] at r;cases r;exact .nil
 | k::ks,_,r=>by
   rw [ycw] at r
   cases r with
   | cons h t=>exact .cons (qjm h) (qhq t)
abbrev KT (H:Hp):List (List Key×V)->List (List Key×Addr×Value)->Prop:=Paired fun p q=>p.1=q.1/\H q.2.1=some (.tup (p.1.map kV))/\qbg p.2 q.2.2
def KT.val {H:Hp} {kvs:List (List Key×V)} {xs:List (List Key×Addr×Value)} (r:KT H kvs xs) (k:List Key):qhz (qc5 kvs k) ((atKey xs k).map (·.2)):=by
 induction r with
 | nil=>exact True.intro
 | @cons p q ps qs h t ih =>
   obtain ⟨h1,_,h2⟩:=h
   by_cases e:p.1=k
   . have e':q.1=k:=h1.symm.trans e
     have b:atKey (q::qs) k=some q.2:=by simp [atKey,yey,e']
     rw [qbu e,b];exact h2
   . have e':¬q.1=k:=fun z=>e (h1.trans z)
     have b:atKey (q::qs) k=atKey qs k:=by simp [atKey,yey,e']
     rw [qbt e,b];exact ih
def KT.repl {H:Hp} {kvs:List (List Key×V)} {xs:List (List Key×Addr×Value)} (r:KT H kvs xs) (k:List Key) {y:V} {u:Value} (ry:qbg y u) :
   KT H (kvs.map fun kv=>if kv.1=k then (kv.1,y) else kv) (xs.map (putAt k u)):=by
 induction r with
 | nil=>exact .nil
 | @cons p q ps qs h t ih =>
   rw [ycw,ycw]
   refine .cons ?_ ih
   obtain ⟨h1,h2,h3⟩:=h
   unfold putAt
   by_cases e:p.1=k
   . rw [if_pos e,if_pos (h1.symm.trans e)];exact ⟨h1,h2,ry⟩
   . rw [if_neg e,if_neg (fun z=>e (h1.trans z))];exact ⟨h1,h2,h3⟩
def KT.put {H:Hp} {kvs:List (List Key×V)} {xs:List (List Key×Addr×Value)} (r:KT H kvs xs) (k:List Key) {b:Addr} {y:V} {u:Value} (hb:H b=some (.tup (k.map kV))) (ry:qbg y u) :
   KT H (qhM kvs k y) (storedH xs k b u):=by
 have e:(kvs.any fun kv=>decide (kv.1=k))=(atKey xs k).isSome:=by
   rw [qdj,(r.val k).isSome_eq,Option.isSome_map]
 unfold qhM storedH
 rw [e]
 by_cases q:(atKey xs k).isSome=true
 . rw [if_pos q,if_pos q];exact r.repl k ry
 . rw [if_neg q,if_neg q];exact Paired.snoc r ⟨rfl,hb,ry⟩
def KT.keeps {H H':Hp} {kvs:List (List Key×V)} {xs:List (List Key×Addr×Value)} (r:KT H kvs xs) (ht:∀b ys,H b=some (.tup ys)->H' b=some (.tup ys)):KT H' kvs xs :=
 Paired.mapP r fun _ _ z=>⟨z.1,ht _ _ z.2.1,z.2.2⟩
section
variable {P:Program} {w:World} {H:Hp} {h:Heap} {a:Addr}
def qqa {u:HO} (ok:HOk P w H h) (e:Rd H a u):qbe P w H h a u:=e.ok ok
def qmh {kvs:List (Key×V)} (ok:HOk P w H h) (e:Rd H a (.dK kvs)):kvs.length<=sizeLine/\(a==sysModules)=false/\∃vs,KV kvs vs/\h.DictOf (qa1 P w) a vs :=
 show qbe P w H h a (.dK kvs) from qqa ok e
def qrU {kvs:List (Key×V)} (ok:HOk P w H h) (e:H a=some (.dK kvs)):kvs.length<=sizeLine/\(a==sysModules)=false/\∃vs,KV kvs vs/\h.DictOf (qa1 P w) a vs:=qmh ok (.inl e)
def qiP {ks:List Key} (ok:HOk P w H h) (e:H a=some (.tup (ks.map kV))):(tupleKind (qa1 P w)).is h ks a:=by
 obtain ⟨_,its,r,o,h1,h2,n,h3⟩:=(show qbe P w H h a (.tup (ks.map kV)) from ok a _ e)
 exact ⟨o,its.toArray,n,h1,h2,h3,by simpa using qhq r⟩
def ql6 {kvs:List (List Key×V)} (ok:HOk P w H h) (e:Rd H a (.dT kvs)):kvs.length<=sizeLine/\(a==sysModules)=false /\
   ∃xs,KT H kvs xs/\h.DictOfH (tupleKind (qa1 P w)) a xs:=by
 obtain ⟨z,y,xs,r,o,es,ep,h1,h2,h3,h4,h5⟩:=(show qbe P w H h a (.dT kvs) from qqa ok e)
 refine ⟨z,y,xs,r,o,es,ep,h1,h2,h3,h4,fun x hx=>?_,h5⟩
 have all:∀{l:List (List Key×V)} {m:List (List Key×Addr×Value)},KT H l m->∀x∈m,(tupleKind (qa1 P w)).is h x.1 x.2.1:=by
   intro l m q
   induction q with
   | nil=>intro x hx;exact nomatch hx
   | @cons p q ps qs hq t ih =>
     intro x hx
     rcases ybd.mp hx with e | hx
     . subst e
       exact qiP ok (by rw [<-hq.1];exact hq.2.1)
     . exact ih x hx
 exact all r x hx
def qr3 {kvs:List (List Key×V)} (ok:HOk P w H h) (e:H a=some (.dT kvs)):kvs.length<=sizeLine/\(a==sysModules)=false /\
 ∃xs,KT H kvs xs/\h.DictOfH (tupleKind (qa1 P w)) a xs:=ql6 ok (.inl e)
end
def qjE (H:Hp) (a:Addr) (y:V) (r:Option V):Prop :=
 (∃kvs k,Rd H a (.dK kvs)/\y=kV k/\r=qc5 kvs k)\/∃kvs k b,Rd H a (.dT kvs)/\y = .ref b/\H b=some (.tup (k.map kV))/\r=qc5 kvs k
def qpW (H:Hp) (a:Addr) (y v:V) (H':Hp):Prop :=
 (∃kvs k,H a=some (.dK kvs)/\y=kV k/\kvs.length<sizeLine/\H'=upd H a (.dK (qhM kvs k v))) \/
 ∃kvs k b,H a=some (.dT kvs)/\y = .ref b/\H b=some (.tup (k.map kV))/\kvs.length<sizeLine/\H'=upd H a (.dT (qhM kvs k v))
def qjE.k {H:Hp} {a:Addr} {kvs:List (Key×V)} {k:Key} (e:H a=some (.dK kvs)):qjE H a (kV k) (qc5 kvs k) := .inl ⟨kvs,k,.inl e,rfl,rfl⟩
def qpW.k {H:Hp} {a:Addr} {kvs:List (Key×V)} {k:Key} {v:V} (e:H a=some (.dK kvs)) (hl:kvs.length<sizeLine):qpW H a (kV k) v (upd H a (.dK (qhM kvs k v))) := .inl ⟨kvs,k,e,rfl,hl,rfl⟩
section
variable {X:Cx} {pins:List (Addr×Obj)} {σ:St} {H:Hp} {s:Shared} {a:Addr} {y v:V} {u r:Value} {o:Option V} {A:Around} {E:Value->Shared->Prop}
def Inv.big (I:Inv X pins σ H s):sysModules<s.heap.objs.size:=by
 have h:mainGlobals<s.heap.objs.size:=(I.mod.glob.keeps I.bk).lt
 exact ybl (by decide) h
def qj0 {Q:Value->Shared->Prop} (hu:A.units+1<cLine) (I:Inv X pins σ H s) (g:qjE H a y (some v)) (ry:qbg y u) (h:∀w' s',Inv X pins σ H s'->qbg v w'->Q w' s') :
   wpAny (model X.prog X.w) A (getItem (.ref a) u) Q E s:=by
 rcases g with ⟨kvs,k,e,ey,l⟩ | ⟨kvs,k,b,e,ey,eb,l⟩
 . subst ey
   obtain ⟨z,hd,vs,rel,dd⟩:=qmh I.hok e
   obtain ⟨w',hw,rw'⟩:=qhz.some_of (v:=v) (o:=valueAt vs k) (by rw [l];exact rel.val k)
   exact wpAny_getItem_of (qjm ry) dd.mapOf hw (h w' _ (I.tok _) rw')
 . subst ey
   cases (show u=Value.ref b from ry)
   obtain ⟨z,hd,xs,rel,dd⟩:=ql6 I.hok e
   obtain ⟨w',hw,rw'⟩:=qhz.some_of (v:=v) (o:=(atKey xs k).map (·.2)) (by rw [l];exact rel.val k)
   obtain ⟨p,hp,hp2⟩:=Option.map_eq_some_iff.mp hw
   refine wpAny_getItem_heap (tupleKind_room_in1 hu) (qiP I.hok eb) dd hp ?_
   rw [hp2]
   exact h w' _ (I.tok _) rw'
def qoK {Q:Value->Shared->Prop} (hu:A.units+1<cLine) (I:Inv X pins σ H s) (g:qjE H a y o) (ry:qbg y u) (h:∀s',Inv X pins σ H s'->Q (.bool (!o.isSome)) s') :
   wpAny (model X.prog X.w) A (compareOp .NotIn u (.ref a)) Q E s:=by
 rcases g with ⟨kvs,k,e,ey,l⟩ | ⟨kvs,k,b,e,ey,eb,l⟩
 . subst ey
   obtain ⟨z,hd,vs,rel,dd⟩:=qmh I.hok e
   refine wpAny_notIn_of (qjm ry) hd dd.mapOf ?_
   rw [<-(rel.val k).isSome_eq,<-l]
   exact h _ (I.tok _)
 . subst ey
   cases (show u=Value.ref b from ry)
   obtain ⟨z,hd,xs,rel,dd⟩:=ql6 I.hok e
   refine wpAny_notIn_heap (tupleKind_room_in1 hu) (qiP I.hok eb) hd dd ?_
   have q:=(rel.val k).isSome_eq
   rw [Option.isSome_map] at q
   rw [<-q,<-l]
   exact h _ (I.tok _)
def qkF {h':Heap} {t':Nat} {ob:HO} (I:Inv X pins σ H s) (mu:Mut (H a)) (hs:Heap.SameBut a s.heap h') (he:∃q,h'.get? a=some q) (new:qbe X.prog X.w (upd H a ob) h' a ob) :
   Inv X pins σ (upd H a ob) { s with heap:=h',toks:=t' } :=
 I.write (x:=a) (e:=a) mu (.inl rfl) (fun b q hb z=>(hs.2 b hb).trans z) he new
def qqM {P:Program} {w:World} {H':Hp} {h':Heap} {kvs:List (Key×V)} {vs:List (Key×Value)} (z:kvs.length<=sizeLine) (hd:(a==sysModules)=false) (rel:KV kvs vs) (dd:h'.DictOf (qa1 P w) a vs) :
 qbe P w H' h' a (.dK kvs):=⟨z,hd,vs,rel,dd⟩
def qlk {H':Hp} {Q:Unit->Shared->Prop} (hu:A.units+1<cLine) (I:Inv X pins σ H s) (g:qpW H a y v H') (ry:qbg y u) (rv:qbg v r) (h:∀s',Inv X pins σ H' s'->Q () s') :
   wpAny (model X.prog X.w) A (setItem (.ref a) u r) Q E s:=by
 rcases g with ⟨kvs,k,e,ey,l,eH⟩ | ⟨kvs,k,b,e,ey,eb,l,eH⟩
 . subst ey eH
   obtain ⟨z,hd,vs,rel,dd⟩:=qrU I.hok e
   have hz:vs.length<=sizeLine:=by rw [<-rel.length];exact z
   have hl:(qhM kvs k v).length<=sizeLine:=by have:=qeJ kvs k v;omega
   refine wpAny_setItem_pairs (hsz:=hz) (qjm ry) dd fun h' dd' hs=>h _ ?_
   have he:∃q,h'.get? a=some q:=let ⟨q,_,_,hq,_⟩:=dd';⟨q,hq⟩
   exact qkF I (by rw [e];exact True.intro) hs he (qqM hl hd (rel.put k rv) dd')
 . subst ey eH
   cases (show u=Value.ref b from ry)
   obtain ⟨z,hd,xs,rel,dd⟩:=qr3 I.hok e
   have hz:xs.length<=sizeLine:=by rw [<-Paired.length rel];exact z
   have hl:(qhM kvs k v).length<=sizeLine:=by have:=qeJ kvs k v;omega
   refine wpAny_setItem_heap (hsz:=hz) (tupleKind_room_in1 hu) (qiP I.hok eb) dd fun h' dd' hs=>h _ ?_
   obtain ⟨q,es,ep,hq,h2,h3,h4,_,h5⟩:=dd'
   refine qkF I (by rw [e];exact True.intro) hs ⟨q,hq⟩ ⟨hl,hd,_,(rel.put k eb rv).keeps fun c ys ec=>?_,q,es,ep,hq,h2,h3,h4,h5⟩
   rw [qap (qsn ec e (fun z=>nomatch z))]
   exact ec
end
section
variable {X:Cx} {pins:List (Addr×Obj)} {σ:St} {H:Hp} {s:Shared} {a:Addr} {kvs:List (Key×V)} {k:Key} {u:Value} {A:Around} {E:Value->Shared->Prop}
end
def qsx (i:Expr):Prop:=∀ov iv,subscripted i false ov iv=operate [ov,iv] (getItem ov iv)
def qjK {prog:Program} {w:World} {A:Around} {E:Value->Shared->Prop} {s:Shared} {env:Env} {value slice:Expr} {pos:Pos} {T id:String} {Q:Value->Shared->Prop}
   (hl:typeLookup (.type T) "__getitem__" = pure (some (.builtin id))) (hs:qsx slice)
   (h:wpAny (model prog w) A (eval value env) (fun o s₁=>wpAny (model prog w) A (eval slice env) (fun i s₂=>s₂.TypeIs o T/\wpAny (model prog w) A (getItem o i) Q E s₂) E s₁) E s) :
   wpAny (model prog w) A (eval (.Subscript value slice pos) env) Q E s:=by
 refine Subscript_ (wpAny_mono h (fun o s₁ h₁=>wpAny_mono h₁ (fun i s₂ h₂=>?_) fun _ _ x=>x) fun _ _ x=>x)
 obtain ⟨hT,h₂⟩:=h₂
 unfold subscriptTail
 refine wpAny_bind ?_
 rw [getitemInPython_of_ne hT.not_modules]
 refine wpAny_bind (wpAny_specialOf hT hl ?_)
 have fin:wpAny (model prog w) A (subscripted slice false o i) (fun r s₃=>wpAny (model prog w) A (letTemporaryGo value o r >>= fun _=>pure r) Q E s₃) E s₂:=by
   rw [hs o i]
   exact wpAny_operating (wpAny_mono h₂ (fun r s₃ h₃=>wpAny_bind (wpAny_letTemporaryGo (wpAny_pure h₃))) fun _ _ x=>x)
 first
   | exact wpAny_pure (wpAny_bind fin)
   | exact wpAny_bind (wpAny_pure (wpAny_bind fin))
   | exact wpAny_bind fin
def qhY {X:Cx} {pins:List (Addr×Obj)} {σ:St} {H:Hp} {s:Shared} {a:Addr} {y:V} {o:Option V} (I:Inv X pins σ H s) (g:qjE H a y o):s.TypeIs (.ref a) "dict" := by
 rcases g with ⟨kvs,k,e,_,_⟩ | ⟨kvs,k,b,e,_,_,_⟩
 . obtain ⟨_,_,vs,_,dd⟩:=qmh I.hok e
   exact dd.typeIs
 . obtain ⟨_,_,xs,_,dd⟩:=ql6 I.hok e
   exact dd.typeIs
def qp5 (td ty:TE):TE:=fun σ H Q=>td σ H fun x H1=>ty σ H1 fun y H2=>∃a v,x = .ref a/\qjE H2 a y (some v)/\Q v H2
def qs3 (ty td:TE):TE:=fun σ H Q=>ty σ H fun y H1=>td σ H1 fun x H2=>∃a o,x = .ref a/\qjE H2 a y o/\Q (.bl o.isSome) H2
def qlb (ty td:TE):TE:=fun σ H Q=>ty σ H fun y H1=>td σ H1 fun x H2=>∃a o,x = .ref a/\qjE H2 a y o/\Q (.bl (!o.isSome)) H2
def qpu (td ty tv:TE):TS:=fun D σ H=>tv σ H fun v H1=>td σ H1 fun x H2=>ty σ H2 fun y H3=>∃a H4,x = .ref a/\qpW H3 a y v H4/\D.nx σ H4
section
variable {X:Cx} {o i e value:Expr} {pos pos' tpos:Pos} {td ty tv:TE}
def qos (hu:X.A.units+1<cLine) (ho:PE X o td) (hi:PE X i ty) (hs:qsx i):PE X (.Subscript o i pos) (qp5 td ty):=by
 intro pins s σ H Q I h
 refine qjK yfc.lookup hs (thn (ho pins s σ H _ I h) fun u s1 ⟨x,H1,I1,rx,q1⟩=>thn (hi pins s1 σ H1 _ I1 q1) fun iv s2 ⟨y,H2,I2,ry,a,v,ex,g,q2⟩=>?_)
 subst ex
 obtain rfl:u=Value.ref a:=rx
 exact ⟨qhY I2 g,qj0 hu I2 g ry fun w' s3 I3 rw'=>⟨v,H2,I3,rw',q2⟩⟩
def qgU (hu:X.A.units+1<cLine) (hi:PE X i ty) (ho:PE X o td):PC X .NotIn i o (qlb ty td):=by
 intro pins s σ H Q I h
 refine thn (hi pins s σ H _ I h) fun iv s1 ⟨y,H1,I1,ry,q1⟩=>thn (ho pins s1 σ H1 _ I1 q1) fun u s2 ⟨x,H2,I2,rx,a,ov,ex,g,q2⟩=>?_
 subst ex
 obtain rfl:u=Value.ref a:=rx
 exact qoK hu I2 g ry fun s3 I3=>⟨.bl (!ov.isSome),H2,I3,rfl,q2⟩
def qob (hu:X.A.units+1<cLine) (ho:PE X o td) (hi:PE X i ty) (hv:PE X value tv) (hs:swapsWith value (some (.Subscript o i pos')) pos.line X.env=pure false) :
   PS X (.Assign [.Subscript o i pos'] value pos) (qpu td ty tv):=by
 intro pins s σ H D I h
 refine wpAny_Assign_Subscript (thn (hv pins s σ H _ I h) fun r s1 ⟨v,H1,I1,rv,q1⟩=>thn (ho pins s1 σ H1 _ I1 q1) fun u s2 ⟨x,H2,I2,rx,q2⟩=>thn (hi pins s2 σ H2 _ I2 q2) fun iv s3 ⟨y,H3,I3,ry,a,H4,ex,g,q3⟩=>?_) hs
 subst ex
 obtain rfl:u=Value.ref a:=rx
 exact qlk hu I3 g ry rv fun s4 I4=>⟨σ,H4,I4,q3⟩
end
def qmY {P:Program} {w:World} {H:Hp} (h:Heap) (hb:sysModules<h.objs.size):qbe P w H (h.push { cls := .type "dict",data := .dict #[] }) h.objs.size (.dK []) :=
 ⟨ych _,beq_eq_false_iff_ne.mpr (Ne.symm (ydh hb)),[],.nil,Heap.DictOf.new h⟩
def qnx:TE:=fun _ H Q=>∀p,H p=none->Q (.ref p) (upd H p (.dK []))
section
variable {X:Cx} {pos:Pos}
def qmP:PE X (.Dict [] [] pos) qnx:=fun pins s σ H Q I h =>
 wpAny_Dict_empty ⟨.ref s.heap.objs.size,_,I.laid (a:=s.heap.objs.size) (o := .dK []) (t':=s.toks) (fun _ _ q=>yde _ q) (yax _) (qmY s.heap I.big),rfl,h _ (I.hok.fresh (yax _))⟩
end
structure M1 (X:Cx) (o:Expr) (m:Str) (apos:Pos) (e:Expr) (cpos:Pos):Prop where
 base:attributeBase o m X.env (eval o X.env)=eval o X.env
 few:((backTo cpos (starEach [e] X.env)).all (fun x=>!x.1)&&(backToKw cpos (keywordEach [] X.env)).all (fun x=>x.1.isSome)
   && decide (([e]:List Expr).length+([]:List Keyword).length+(if ([]:List Keyword).isEmpty then 0 else 1)<30))=true
 line:(apos.endLine==cpos.line)=true
 trees:backTo cpos (starEach [e] X.env)=[(false,eval e X.env)]
structure M2 (X:Cx) (o:Expr) (m:Str) (apos:Pos) (e f:Expr) (cpos:Pos):Prop where
 base:attributeBase o m X.env (eval o X.env)=eval o X.env
 few:((backTo cpos (starEach [e,f] X.env)).all (fun x=>!x.1)&&(backToKw cpos (keywordEach [] X.env)).all (fun x=>x.1.isSome)
   && decide (([e,f]:List Expr).length+([]:List Keyword).length+(if ([]:List Keyword).isEmpty then 0 else 1)<30))=true
 line:(apos.endLine==cpos.line)=true
 trees:backTo cpos (starEach [e,f] X.env)=[(false,eval e X.env),(false,eval f X.env)]
section
variable {X:Cx} {pins:List (Addr×Obj)} {σ:St} {H:Hp} {s:Shared} {a:Addr} {y d:V} {u r:Value} {o:Option V} {A:Around} {E:Value->Shared->Prop}
end
section
variable {X:Cx} {o e f:Expr} {apos cpos:Pos} {td ty tx:TE}
end
section
variable {X:Cx} {pins:List (Addr×Obj)} {σ:St} {H:Hp} {s:Shared} {a:Addr} {kvs:List (Key×V)} {A:Around} {E:Value->Shared->Prop}
end
section
variable {X:Cx} {pins:List (Addr×Obj)} {σ:St} {H:Hp} {s:Shared} {a:Addr} {y:V} {u:Value} {A:Around} {E:Value->Shared->Prop}
end
end L2
namespace Att
open PySem PySem.W PySem.Calls PyProof.Rows
def qfp {P:Params} {h:Heap}:∀(ns:List Int) (vs:List Value),WellAll P h vs (ns.map WData.int)->IntsAre vs ns:=by
 intro ns
 induction ns with
 | nil =>
   intro vs w
   rw [yet] at w
   cases w
   exact .nil
 | cons n ns ih =>
   intro vs w
   rw [ycw] at w
   cases w with
   | cons a b =>
     cases a
     exact .cons _ _ (ih _ b)
def qj2 {l:OpenLaw} {n:Nat} (hn:l.most=some n) {P:Params} {h:Heap} {args:List WData} {vals:List Value}
   (hpre:l.row.toRowW.claim.pre args=true) (hwl:WellAll P h vals args) :
   ∃a vs ns,vals=[Value.ref a]/\args=[WData.list (ns.map WData.int)]/\h.get? a=some { cls := .type "list",data := .seq vs.toArray }/\IntsAre vs ns/\ns.length<=n:=by
 have hsh:WShape.hasAll [] args [.list .int]=true:=(pre_splitW hpre).1
 have hc:l.pre.holds [] { args:=args }=true:=(pre_splitW hpre).2
 obtain ⟨d,r,rfl,h1,h2⟩:=hasAllW_cons hsh
 obtain rfl:=hasAllW_nil h2
 obtain ⟨xs,rfl,h3⟩:=hasW_list h1
 obtain ⟨ns,rfl⟩:=items_int h3
 have hlen:ns.length<=n:=by
   unfold OpenLaw.pre at hc
   have h4:(WTm.not (.lt (.lit (.int (n:Int))) (.len (.arg 0)))).holds [] { args:=[.list (ns.map .int)] }=true:=by
     have h4:=(holds_andW hc).1
     rw [hn] at h4
     exact h4
   have h5:=condW_of h4 (w_not (w_lt w_lit (w_len_list (w_arg rfl))))
   rw [ybz] at h5
   refine Nat.le_of_not_lt fun q=>?_
   have q':(n:Int)<((ns.length:Nat):Int):=by omega
   first
     | (rw [decide_eq_true q'] at h5;exact absurd h5 (by decide))
     | (simp at h5;omega)
 cases hwl with
 | cons w1 w2 =>
   cases w2
   cases w1 with
   | list ho hall=>exact ⟨_,_,ns,rfl,rfl,ho,qfp ns _ hall,hlen⟩
def qlo (l:OpenLaw) (args:List WData):l.row.toRowW.claim.post args (.bool true) args=true :=
 postW_of (r:=l.row.toRowW) (X:=(true==true))
   (show WShape.has [] (.bool true) .bool=true by first | rfl | decide | simp [WShape.has,WShape.arms,WShape.armsAll])
   (show (WTm.eq .res (.lit (.bool true))).value [] { args:=args,res:=some (.bool true),after:=args }=some (.bool (true==true)) from w_eq_bool (w_res rfl) w_lit) rfl
def attach_call {l:OpenLaw} {n:Nat} {q:Program} {loose:List Str} {XP:(Str->Option Value)->Heap->Prop} {YP:World->Heap->Prop} {d:DefRec}
   (hn:l.most=some n) (hdf:d.params.defaults=[])
   (call:∀(w:World) (s₀ s₁:Shared) (mg mb:Str->Option Value) (fa:Addr) (o:Obj) (pm cd doc:Value) (a:Addr) (vs:List Value) (ns:List Int),
     Ground q loose [] XP w s₀ mg mb s₁.heap->YP w s₁.heap ->
     s₁.heap.get? fa=some o->o.data = .func (docDef d.name d.params d.body d.scope pm cd doc)->s₁.heap.CodeRec cd d.name->mg d.name=some (.ref fa) ->
     s₁.heap.get? a=some { cls := .type "list",data := .seq vs.toArray }->IntsAre vs ns->ns.length<=n->s₁.gens = #[] ->
     codeAny (model l.prog w) callerA (.call (.ref fa) ⟨[.ref a],[]⟩) (fun r s'=>r = .ok (.ret (.bool true))/\OldK s₁.heap s'.heap/\s'.os=s₁.os/\AllBare s'.gens) s₁) :
   WalkO q loose XP YP l.row.toRowW d [] (fun f vs=>PySem.call f vs):=by
 intro w s₀ s₁ mg mb G Y fa o pm cd doc dV kV ho hd hcd hD hmg hg args vals as hpre hlay hrd hwl hlo
 obtain rfl:dV = .none:=Dflts.none hD hdf
 obtain rfl:kV = .none:=Dflts.noKw hD
 obtain ⟨a,vs,ns,rfl,rfl,hobj,hints,hlen⟩:=qj2 hn hpre hwl
 refine enter_call (codeAny_mono (call w s₀ s₁ mg mb fa o pm cd doc a vs ns G Y ho (fd_plain hd) hcd hmg hobj hints hlen hg) fun r s' hq=>?_)
 obtain ⟨rfl,h2,h3,h4⟩:=hq
 exact ⟨.inl ⟨.bool true,.bool true,[],rfl,fun _=>rfl,.bool true,qlo l _,fun _=>⟨List.Pairwise.nil,fun _ hm=>(nomatch hm)⟩⟩,h2,h3,h4⟩
section
variable {prog:Program} {w:World} {A:Around} {E:Value->Shared->Prop} {s:Shared} {K:Frag}
end
end Att
namespace L2
open PySem PySem.Spec PyProof.Rows
def qdq:∀{vs:List Value} {ns:List Int},IntsAre vs ns->qaV (ns.map V.int) vs
 | _,_,.nil => .nil
 | _,_,.cons n t h => .cons ⟨t,rfl⟩ (qdq h)
def qse (H:Hp):Prop:=∀b,H b=none\/∃o xs,H b=some (.frz o (.lst xs))
def qmj {P:Program} {w:World} {K:PySem.W.Frag} {mg mb:Str->Option Value} {CX:CXT} {k:Nat} {fa a:Addr} {fd:FuncData} {x:Str} {sp:Sp} {s₁:Shared} {vs:List Value} {ns:List Int}
   (KX:K.In s₁.heap) (hns:s₁.heap.Ns mainGlobals mg) (hb:s₁.heap.Ns builtinsNs mb) (hbb:∀x:Str,x ≠ "__name__" -> mb x=bootBuiltins x) (hlim:s₁.heap.NoLimit) (hg:s₁.gens = #[])
   (ha:s₁.heap.get? a=some { cls := .type "list",data := .seq vs.toArray }) (hi:IntsAre vs ns) (hl:ns.length<=sizeLine) (hr:qcZ k callerA)
   (F:∀base:Heap,K.In base->base.Ns mainGlobals mg->qaN P w K mg base CX k fa fd [x] sp) (hbind:∀(s:Shared) (u:Value),BindsTo s fd ⟨[u],[]⟩ [(x,u)])
   (hsp:∀H:Hp,qse H->SqL K H a (ns.map V.int)->sp [.ref a] H (fun v _=>v = .bl true) fun _ _ _=>False)
   (hCX:∀H e s',CX [] H s₁ (fun _ _ _=>False) e s'->False) :
   codeAny (model P w) callerA (.call (.ref fa) ⟨[.ref a],[]⟩) (fun r s'=>r = .ok (.ret (.bool true))/\OldK s₁.heap s'.heap/\s'.os=s₁.os/\AllBare s'.gens) s₁:=by
 have rv:=qdq hi
 have lenV:=hi.length
 -- from an abstract heap in which nothing but the script may be tracked
 have core:∀H:Hp,qse H->SqL K H a (ns.map V.int)->HOk P w H s₁.heap->(∀b,H b≠none->b=a)->(H a≠none->K.lookup a=none) ->
     codeAny (model P w) callerA (.call (.ref fa) ⟨[.ref a],[]⟩) (fun r s'=>r = .ok (.ret (.bool true))/\OldK s₁.heap s'.heap/\s'.os=s₁.os/\AllBare s'.gens) s₁:=by
   intro H hO hS hok hA hK
   have base_of:∀{b:Addr} {o:Obj},s₁.heap.get? b=some o->H b=none->(qne s₁.heap H).get? b=some o:=fun e n=>qmq e n
   have noA:∀{b:Addr} {o:Obj} {es:Array DictEntry} {ep:Nat},s₁.heap.get? b=some o->o.data = .dict es ep->H b=none:=fun {b o es ep} e d=>by
     cases q:H b with
     | none=>rfl
     | some u =>
       have e':b=a:=hA b (by rw [q];simp)
       subst e'
       rw [ha] at e;cases e
       have d':Data.seq vs.toArray _=Data.dict es ep:=d
       cases d'
   have nsK:∀{b:Addr} {m:Str->Option Value},s₁.heap.Ns b m->(qne s₁.heap H).Ns b m:=fun {b m} ⟨o,es,ep,e,d,r⟩=>⟨o,es,ep,base_of e (noA e d),d,r⟩
   have hKb:K.In (qne s₁.heap H):=fun b o e=>base_of (KX b o e) (by
     cases q:H b with
     | none=>rfl
     | some u =>
       have e':b=a:=hA b (by rw [q];simp)
       subst e'
       rw [hK (by rw [q];simp)] at e;cases e)
   have hM:Mod K mg (qne s₁.heap H):=⟨hKb,nsK hns,⟨mb,nsK hb,hbb⟩,let ⟨mc,h1,h2⟩:=hlim;⟨mc,nsK h1,h2⟩⟩
   have e0:qof P w K mg (qne s₁.heap H) callerA [] s₁ H:=⟨rfl,hM,fun b o e=>qpB e,ydt (qka _ _),trivial,fun b hb=>absurd (show b∈([]:List Addr) from hb) (by simp),hok,.of_eq hg⟩
   refine codeAny_mono ((F _ hKb (nsK hns)).run callerA [] s₁ H ⟨[.ref a],[]⟩ [.ref a] [.ref a] _ _ hr e0 (hbind s₁ (.ref a)) (.cons rfl .nil) (hsp H hO hS)) fun r s' h=>?_
   cases r with
   | error e=>exact (hCX H e s' h).elim
   | ok fl =>
     cases fl with
     | next=>exact False.elim h
     | brk=>exact False.elim h
     | cont=>exact False.elim h
     | ret u =>
       obtain ⟨v,H',os,bare,un,hok',r',q⟩:=h
       have q':v = .bl true:=q
       subst q'
       obtain rfl:u=Value.bool true:=r'
       refine ⟨rfl,OldK.of_keep fun b o e=>?_,os,bare⟩
       cases q:H b with
       | none=>exact un.keep b o e q (by intro z;exact absurd (show b∈([]:List Addr) from z) (by simp)) (by simp)
       | some u =>
         rcases hO b with z | ⟨ob,xs,z⟩
         . rw [q] at z;cases z
         . have z2:=un.frzs b ob _ z
           obtain ⟨e1,_⟩:=hok b _ z
           obtain ⟨e2,_⟩:=hok' b _ z2
           rw [e] at e1;cases e1
           exact e2
 cases hk:K.lookup a with
 | some o =>
   -- the script is one of the module's own objects
   have e:=KX a o hk
   rw [ha] at e
   cases e
   refine core (fun _=>none) (fun _ => .inl rfl) (.inr ⟨_,vs.toArray,_,hk,rfl,rfl,rfl,by rw [yeu,lenV];exact hl,by simpa using rv⟩) (fun b u z=>by have z':(none:Option HO)=some u:=z;cases z') (fun b z=>absurd rfl z) fun z=>absurd rfl z
 | none =>
   refine core (fun b=>if b=a then some (.frz { cls := .type "list",data := .seq vs.toArray } (.lst (ns.map V.int))) else none) (fun b=>?_) (.inl (.inr ⟨{ cls := .type "list",data := .seq vs.toArray },if_pos rfl⟩)) (fun b u z=>?_) (fun b z=>?_) fun _=>hk
   . by_cases hb:b=a
     . exact .inr ⟨_,_,if_pos hb⟩
     . exact .inl (if_neg hb)
   . by_cases hb:b=a
     . have z':=(if_pos hb).symm.trans z
       cases z'
       subst hb
       exact ⟨ha,by rw [ybz];exact hl,vs,_,rv,ha⟩
     . have z':=(if_neg hb).symm.trans z
       cases z'
   . by_cases hb:b=a
     . exact hb
     . exact absurd (if_neg hb) z
end L2
namespace L2
open PySem PySem.Spec PyProof.Rows
def walk_of {l:PySem.W.OpenLaw} {n k:Nat} {q:Program} {loose:List Str} {XP:(Str->Option Value)->Heap->Prop} {YP:World->Heap->Prop} {d:DefRec} {K:Params->PySem.W.Frag} {CX:World->CXT} {sp:World->Sp} {x:Str}
   (hn:l.most=some n) (hn2:n<=sizeLine) (hdf:d.params.defaults=[]) (hr:qcZ k callerA)
   (hY:∀(w:World) (h:Heap),YP w h->(K w.params).In h)
   (F:∀(w:World) (mg:Str->Option Value) (fa:Addr) (h:Heap),(K w.params).In h->h.Ns mainGlobals mg->mg d.name=some (.ref fa) ->
     ∃fd:FuncData,(∀(s:Shared) (u:Value),BindsTo s fd ⟨[u],[]⟩ [(x,u)]) /\
       ∀base:Heap,(K w.params).In base->base.Ns mainGlobals mg->qaN l.prog w (K w.params) mg base (CX w) k fa fd [x] (sp w))
   (hsp:∀(w:World) (H:Hp) (a:Addr) (ns:List Int),ns.length<=n->qse H->SqL (K w.params) H a (ns.map V.int)->sp w [.ref a] H (fun v _=>v = .bl true) fun _ _ _=>False)
   (hCX:∀(w:World) (H:Hp) (s:Shared) (e:Value) (s':Shared),CX w [] H s (fun _ _ _=>False) e s'->False) :
   PySem.W.WalkO q loose XP YP l.row.toRowW d [] (fun f vs=>PySem.call f vs):=by
 refine Att.attach_call hn hdf fun w s₀ s₁ mg mb fa o pm cd doc a vs ns G Y ho hd hcd hmg hobj hints hlen hg=>?_
 have KX:=hY w _ Y
 obtain ⟨fd,hb,hF⟩:=F w mg fa _ KX G.T.g hmg
 exact qmj KX G.T.g G.T.b G.T.builtins G.T.nolimit hg hobj hints (ycf hlen hn2) hr hF hb (fun H hO hS=>hsp w H a ns hlen hO hS) fun H e s'=>hCX w H s₁ e s'
end L2
namespace L2
open PySem PySem.Spec PyProof.Rows
def qey (s:Stmt) (j:Nat):Stmt:=match s with
 | .ClassDef _ _ _ body _ _ _ _ _ _ _=>body.getD j (.Pass ⟨0,0,0,0⟩)
 | _ => .Pass ⟨0,0,0,0⟩
def qah (s:Stmt):Arguments:=match s with
 | .FunctionDef _ a _ _ _ _ _ _ _ _=>a
 | _=>{ posonlyargs:=[],args:=[],vararg:=none,kwonlyargs:=[],kw_defaults:=[],kwarg:=none,defaults:=[] }
def qag (s:Stmt):List Stmt:=match s with
 | .FunctionDef _ _ b _ _ _ _ _ _ _=>b
 | _=>[]
def qab (s:Stmt):Scope:=match s with
 | .FunctionDef _ _ _ _ _ _ sc _ _ _=>sc
 | _=>{ kind := .function,names:=[],isGenerator:=false,isCoroutine:=false }
abbrev CX0:CXT:=fun _ _ _ _ _ _=>False
abbrev E0:XK:=fun _ _ _=>False
def qqm {X:Cx}:qcf CX0 X E0:=fun _ _ _ _ _ _ _ h=>h.elim
structure Fun (K:PySem.W.Frag) (x qual:Str) (st:Stmt) (f:Addr) (fd:FuncData):Prop where
 ex:∃(oc:Value) (od:Option Addr) (kV doc pm:Value) (an:Option Addr) (cdv ct:Value) (osl:Array (Option Value)),
   fd=PySem.W.fnOf x qual (qah st) (qag st) (qab st) .none kV doc pm an cdv ct/\K.lookup f=some ⟨oc,od,.func fd,osl⟩/\PySem.W.codeIn K cdv qual=true
 kp:PySem.W.keepIn K (.ref f)=true
section
variable {P:Program} {w:World} {K:PySem.W.Frag} {mg:Str->Option Value} {base:Heap}
def Fun.ok {x qual:Str} {st:Stmt} {f:Addr} {fd:FuncData} {N ps:List Str} {k:Nat} {sp:Sp} (F:Fun K x qual st f fd) (S:qai N ps (qab st)) (len:∀vs H Q E,sp vs H Q E->vs.length=ps.length)
   (hbody:∀(cdv:Value) (A:Around) (outer:List Env) (s:Shared) (H:Hp) (vs:List V) (Q:VK) (E:XK),qcZ k (A.deeper (envOfC qual (qab st) s.heap.objs.size f cdv))->sp vs H Q E ->
     ∃t,PSs (qgS CX0 P w K mg base N qual (qab st) f cdv A outer s H E).nox (qag st) t/\t { nx:=fun _ H'=>Q .non H',rt:=Q } (qgs N vs) H):qaN P w K mg base CX0 (k+1) f fd ps sp:=by
 obtain ⟨oc,od,kV,doc,pm,an,cdv,ct,osl,rfl,lk,hcd⟩:=F.ex
 refine qqH lk hcd S len fun A outer s H vs Q E hr hsp=>?_
 obtain ⟨t,h,q⟩:=hbody cdv A outer s H vs Q E hr hsp
 exact ⟨t,h.nox,q⟩
def Fun.binds {x qual:Str} {st:Stmt} {f:Addr} {fd:FuncData} {ps:List Str} (F:Fun K x qual st f fd)
   (h:∀(kV doc pm:Value) (an:Option Addr) (cdv ct:Value) (us:List Value),us.length=ps.length->bindArgs (PySem.W.fnOf x qual (qah st) (qag st) (qab st) .none kV doc pm an cdv ct) ⟨us,[]⟩=pure (ps.zip us)):qdC K fd ps []:=by
 obtain ⟨oc,od,kV,doc,pm,an,cdv,ct,osl,rfl,lk,hcd⟩:=F.ex
 exact .all (h kV doc pm an cdv ct)
def qao {x qual:Str} {st:Stmt} {f:Addr} {oc:Value} {od an:Option Addr} {osl:Array (Option Value)} {kV doc pm cdv ct:Value} (l:K.lookup f=some ⟨oc,od,.func (PySem.W.fnOf x qual (qah st) (qag st) (qab st) .none kV doc pm an cdv ct),osl⟩)
 (c:PySem.W.codeIn K cdv qual=true) (k:PySem.W.keepIn K (.ref f)=true):Fun K x qual st f (PySem.W.fnOf x qual (qah st) (qag st) (qab st) .none kV doc pm an cdv ct):=⟨⟨oc,od,kV,doc,pm,an,cdv,ct,osl,rfl,l,c⟩,k⟩
end
def qmm {A:Around} {k:Nat} (hr:qcZ k A):A.units+1<cLine:=ybi (Nat.add_le_add_left (by decide:1<=64) _) hr.units
section
variable {X:Cx}
def pv (i:Nat) {x:Str} {pos:Pos} (hN:X.N[i]?=some x:=by rfl) (hv:Vis X.env.scope x:=by first | exact Or.inl rfl | exact Or.inr (Or.inl rfl) | exact Or.inr (Or.inr rfl)) (hd:(x==("__debug__" : Str))=false:=by decide)
 (hcd:(x==("__classdict__" : Str))=false:=by decide):PE X (.Name x pos) (qrT i):=qq2 hN hv hd hcd
end
def qgJ {A B:Prop} (h:B):if false=true then A else B:=by
 rw [if_neg yeh]
 exact h
def qjF {A B:Prop} (h:A):if true=true then A else B:=by
 rw [if_pos rfl]
 exact h
def qsR {c A B:Prop} [Decidable c] (h1:c->A) (h2:¬c->B):if c then A else B:=by
 by_cases h:c
 . rw [if_pos h]
   exact h1 h
 . rw [if_neg h]
   exact h2 h
def qav (H H':Hp):Prop:=∀b o,H b=some o->H' b=some o
def qav.refl (H:Hp):qav H H:=fun _ _ h=>h
def qav.trans {H H1 H2:Hp} (a:qav H H1) (b:qav H1 H2):qav H H2:=fun c o h=>b c o (a c o h)
def qav.seq {K:PySem.W.Frag} {H H':Hp} {a:Addr} {xs:List V} (e:qav H H') (h:SqL K H a xs):SqL K H' a xs:=by
 rcases h with (h | ⟨o,h⟩) | h
 . exact .inl (.inl (e _ _ h))
 . exact .inl (.inr ⟨o,e _ _ h⟩)
 . exact .inr h
end L2
namespace L2
open PySem
def qda {env:Env}:∀(names:List (Str×NameKind)) (init:List (Str×Addr)),(∀n k,(n,k)∈names->k = .free->∃c,env.cells.lookup n=some c) ->
   (∀n c,init.lookup n=some c->env.cells.lookup n=some c) ->
   ∃cl,(forIn names init fun (x:Str×NameKind) (cs:List (Str×Addr))=>(match x with
     | (name,kind)=>if (kind==NameKind.free)=true then (do let a <-cellOf env name;pure (ForInStep.yield ((name,a)::cs))) else pure (ForInStep.yield cs):Sem (ForInStep (List (Str×Addr)))))=(pure cl:Sem (List (Str×Addr))) /\
     (∀n c,cl.lookup n=some c->env.cells.lookup n=some c)/\(∀n,(n,NameKind.free)∈names\/(∃c,init.lookup n=some c)->∃c,cl.lookup n=some c)
 | [],init,_,h1=>⟨init,rfl,h1,fun n h=>by rcases h with h | h;cases h;exact h⟩
 | (nm,k)::r,init,h0,h1=>by
   by_cases hk:k = .free
   . obtain ⟨c,hc⟩:=h0 nm k ybb hk
     have h1':∀n c',((nm,c)::init).lookup n=some c'->env.cells.lookup n=some c':=fun n c' e=>by
       rw [yfd] at e
       split at e
       . rename_i he
         have:n=nm:=by simpa using he
         subst this;cases e;exact hc
       . exact h1 n c' e
     obtain ⟨cl,e1,e2,e3⟩:=qda r ((nm,c)::init) (fun n k' hm=>h0 n k' (ybe _ hm)) h1'
     refine ⟨cl,?_,e2,fun n hn=>e3 n ?_⟩
     . rw [yfe]
       subst hk
       have:cellOf env nm=pure c:=by unfold cellOf;rw [hc]
       simp only [this]
       exact e1
     . rcases hn with hn | ⟨c',hn⟩
       . rcases ybd.mp hn with e | e
         . cases e
           exact .inr ⟨c,by simp [yfd]⟩
         . exact .inl e
       . right
         rw [yfd]
         split
         . exact ⟨_,rfl⟩
         . exact ⟨c',hn⟩
   . obtain ⟨cl,e1,e2,e3⟩:=qda r init (fun n k' hm=>h0 n k' (ybe _ hm)) h1
     refine ⟨cl,?_,e2,fun n hn=>e3 n ?_⟩
     . rw [yfe]
       have:(k==NameKind.free)=false:=by simpa using hk
       simp only [this]
       exact e1
     . rcases hn with hn | hn
       . rcases ybd.mp hn with e | e
         . cases e;exact absurd rfl hk
         . exact .inl e
       . exact .inr hn
def qcA {scope:Scope} {env:Env} (h:∀n,(n,NameKind.free)∈scope.names->∃c,env.cells.lookup n=some c) :
   ∃cl,closureFor scope env=pure cl/\(∀n c,cl.lookup n=some c->env.cells.lookup n=some c)/\(∀n,(n,NameKind.free)∈scope.names->∃c,cl.lookup n=some c):=by
 obtain ⟨cl,e1,e2,e3⟩:=qda (env:=env) scope.names [] (fun n k hm hk=>h n (hk▸hm)) (fun n c e=>by cases e)
 refine ⟨cl,?_,e2,fun n hn=>e3 n (.inl hn)⟩
 have e:closureFor scope env=((forIn scope.names ([]:List (Str×Addr)) fun (x:Str×NameKind) (cs:List (Str×Addr))=>(match x with
     | (name,kind)=>if (kind==NameKind.free)=true then (do let a <-cellOf env name;pure (ForInStep.yield ((name,a)::cs))) else pure (ForInStep.yield cs):Sem (ForInStep (List (Str×Addr))))) >>= fun r=>pure r):=rfl
 rw [e,e1]
 rfl
end L2
namespace L2
open PySem PySem.Spec PyProof.Rows
section
variable {X:Cx} {pins:List (Addr×Obj)} {σ:St} {H:Hp} {s:Shared}
def Inv.track {p:Addr} {o:HO} (I:Inv X pins σ H s) (f:qhL X pins H p) (new:qbe X.prog X.w (upd H p o) s.heap p o):Inv X pins σ (upd H p o) s:=by
 obtain ⟨f0,f1,f2,f3,f4,f5⟩:=f
 have nit:∀b u,H b=some u->b≠p:=fun b u e z=>by rw [z,f0] at e;cases e
 refine I.step (h':=s.heap) (g':=s.gens) (d':=s.drawn) (t':=s.toks) (ch:=[p]) (fun b hb=>?_) (fun b o _ _ _ e _=>e) (fun b o _ _ _ e _=>⟨o.slots,e⟩)
   (fun b o hc e n=>by rw [qap (fun z=>hc (by simp [z]))];exact n) (fun b o _ e=>⟨o,e⟩) (fun b xs e=>by rw [qap (nit b _ e)];exact e) (fun b o u e=>by rw [qap (nit b _ e)];exact e)
   (fun b ps e=>⟨#[],by rw [qap (nit b _ e),e];simp⟩) (fun m hm=>hm) (fun b u e=>?_) I.bare
 . have e:b=p:=by simpa using hb
   subst e
   exact ⟨f3,f1,f4,f5⟩
 . by_cases hb:b=p
   . subst hb;rw [qaj] at e;cases e;exact new
   . rw [qap hb] at e
     exact (I.hok b u e).stay (fun c v _ q=>q) (fun c q=>by rw [qap (nit c _ q)];exact q) fun c xs q=>by rw [qap (nit c _ q)];exact q
end
section
variable {prog:Program} {w:World} {A:Around} {R:Result->Shared->Prop} {s:Shared}
def qhx {elt target iter:Expr} {ifs:List Expr} {scope:Scope} {pos:Pos} {it acc:Value} {env:Env} (I:Nat->Shared->Prop)
   (turn:∀n s,I n s->wpAny (model prog w) A (pyNext it) (fun r s₁=>match r with
     | none=>R (.ok .next) s₁
     | some v=>wpAny (model prog w) A (letOwnedTupleGo target it v) (fun _ s₁'=>wpAny (model prog w) A (assign target env v) (fun _ s₂ =>
         wpAny (model prog w) A (forIn ifs true fun c r=>if r=true then do let ok <-isTrue c env (eval c env);pure (ForInStep.yield ok) else pure (ForInStep.yield r)) (fun ok s₃ =>
           if ok=true then wpAny (model prog w) A (eval elt env) (fun x s₄ =>
             wpAny (model prog w) A (call (.builtin "list.append") [acc,x]) (fun _ s₅=>∃m,m<n/\I m s₅) (fun _ _=>False) s₄) (fun _ _=>False) s₃
           else ∃m,m<n/\I m s₃) (fun _ _=>False) s₂) (fun _ _=>False) s₁') (fun _ _=>False) s₁) (fun _ _=>False) s)
   (n:Nat) (h:I n s):codeAny (model prog w) A (.compLoop (.ListComp elt [⟨target,iter,ifs,0⟩] scope pos) 0 it acc env) R s:=by
 refine codeAny_loop rfl I (fun n s hI=>?_) n h
 show wpAny _ A ((compTurn (.ListComp elt [⟨target,iter,ifs,0⟩] scope pos) 0 it acc env).onRaise (fun x=>do noteFrame x env;theTreesLotGoes x)) _ _ s
 refine wpAny_noted (wpAny_noRaise ?_)
 rw [compTurn_list]
 refine wpAny_bind (wpAny_standAt (wpAny_bind (wpAny_mono (turn n s hI) (fun r s₁ h₁=>?_) fun _ _ h'=>h')))
 cases r with
 | none=>exact wpAny_pure h₁
 | some v =>
   refine wpAny_bind (wpAny_mono h₁ (fun _ s₁' h₁'=>?_) fun _ _ h'=>h')
   refine wpAny_bind (wpAny_mono h₁' (fun _ s₂ h₂=>wpAny_bind (wpAny_mono h₂ (fun ok s₃ h₃=>?_) fun _ _ h'=>h')) fun _ _ h'=>h')
   cases ok with
   | false=>exact wpAny_pure ⟨rfl,h₃⟩
   | true =>
     exact wpAny_bind (wpAny_bind (wpAny_mono h₃ (fun x s₄ h₄=>wpAny_bind (wpAny_mono h₄ (fun _ s₅ h₅=>wpAny_pure (wpAny_pure ⟨rfl,h₅⟩)) fun _ _ h'=>h')) fun _ _ h'=>h'))
end
def blk (X:Cx) (N:List Str) (scope:Scope) (cl:List (Str×Addr)) (C:Addr) (s:Shared) (H:Hp) (fp:List Addr):Cx :=
 { X with N:=N,s₀:=s,H₀:=H,env:=compEnvC scope cl C X.env,outer:=X.stack,ex:=fp,fn:=fun _=>false,pn:=[],xe:=fun _ _=>False }
def PTs (X:Cx) (ifs:List Expr) (t:TT):Prop :=
 ∀(pins:List (Addr×Obj)) (s:Shared) (σ:St) (H:Hp) (Q:Bool->Hp->Prop),Inv X pins σ H s->t σ H Q ->
   wpAny (model X.prog X.w) X.A (forIn ifs true fun c r=>if r=true then do let ok <-isTrue c X.env (eval c X.env);pure (ForInStep.yield ok) else pure (ForInStep.yield r)) (TP X pins σ Q) X.xe s
def qsM:TT:=fun _ H Q=>Q true H
def qbi {X:Cx}:PTs X [] qsM:=fun _ _ _ H _ I h=>wpAny_tests_nil ⟨H,I,h⟩
def qgy {X:Cx} {c:Expr} {t:TT} (h:PT X c t):PTs X [c] t:=fun pins s σ H Q I hw=>wpAny_tests_one (h pins s σ H Q I hw)
def qbr (nt:Nat) (caps:List Nat) (σ:St):St:=List.replicate nt none++caps.map fun j=>(σ[j]?).join
def qh8 (nt:Nat) (g:TG):Prop:=∀(v:V) (cs:St) (H:Hp) (Q:St->Hp->Prop),g v (List.replicate nt none++cs) H Q ->
 g v (List.replicate nt none++cs) H fun σ' H'=>(∀(j:Nat) (u:V),(List.replicate nt none++cs)[j]?=some (some u)->σ'[j]?=some (some u))/\Q σ' H'
def qa2:qh8 1 (qel 0):=by
 intro v cs H Q h
 refine ⟨fun j u e=>?_,h⟩
 cases j with
 | zero=>simp at e
 | succ j=>simpa using e
def qfy (nt:Nat) (caps:List Nat) (wi:TI) (g:TG) (tt:TT) (te:TE):TE:=fun σ H Q=>wi σ H fun J H1 =>
 ∃W:Nat->Nat->List V->Hp->Prop,(∃m,W 0 m [] H1)/\∀i m ys H2,W i m ys H2 ->
   (J.stop i H2/\ys.length<=sizeLine/\∀p,H2 p=none->Q (.ref p) (upd H2 p (.lst ys))) \/
   (J.go i H2/\ys.length<sizeLine/\∀x H3,J.yld i H2 x H3->g x (qbr nt caps σ) H3 fun σ4 H4=>tt σ4 H4 fun b H5 =>
     if b=true then te σ4 H5 fun y H6=>∃m',m'<m/\W (i+1) m' (ys++[y]) H6 else ∃m',m'<m/\W (i+1) m' ys H5)
structure qfJ (X:Cx) (N:List Str) (nt:Nat) (caps:List Nat) (scope:Scope):Prop where
 cell:∀y∈scope.names,y.2 ≠ .cell
 kind:scope.kind = .function
 names:∀x∈scope.names,x.2 = .local->scope.names.lookup x.1=some .local
 free:∀n,(n,NameKind.free)∈scope.names->X.env.kindOf n=some .cell\/X.env.kindOf n=some .free
 cap:∀(j i:Nat),caps[j]?=some i->∃x,X.N[i]?=some x/\N[nt+j]?=some x/\(x,NameKind.free)∈scope.names/\scope.names.lookup x=some .free
 len:N.length=nt+caps.length
def qcH {α:Type} (f:Str×α->Str×α) (hf:∀p,(f p).1=p.1):∀(l:List (Str×α)) (x:Str),(l.map f).lookup x=(l.lookup x).map fun k=>(f (x,k)).2
 | [],_=>rfl
 | (n,k)::r,x=>by
   have ih:=qcH f hf r x
   have e:f (n,k)=(n,(f (n,k)).2):=Prod.ext (hf (n,k)) rfl
   rw [ycw,e,yfd,yfd]
   split
   . rename_i h
     have:x=n:=by simpa using h
     subst this
     rfl
   . exact ih
def qfW {α:Type}:∀{l:List (Str×α)} {x:Str} {k:α},l.lookup x=some k->(x,k)∈l
 | [],_,_,h=>by cases h
 | (n,q)::r,x,k,h=>by
   rw [yfd] at h
   split at h
   . rename_i e
     have:x=n:=by simpa using e
     subst this
     cases h
     exact ybb
   . exact ybe _ (qfW h)
def qb7 {scope:Scope} {env:Env} {x:Str} (hc:∀y∈scope.names,y.2 ≠ .cell) {k:NameKind} (h:(relabel scope env).names.lookup x=some k) (hk:k = .cell\/k = .free):(x,NameKind.free)∈scope.names:=by
 unfold relabel at h
 dsimp only at h
 rw [qcH _ (fun p=>by obtain ⟨n,k⟩:=p;dsimp only;split<;>rfl)] at h
 cases hl:scope.names.lookup x with
 | none=>rw [hl] at h;cases h
 | some q =>
   rw [hl] at h
   have m:=qfW hl
   by_cases hq:q = .free
   . rw [<-hq];exact m
   . exfalso
     have hb:(q==NameKind.free)=false:=by simpa using hq
     simp only [yez,hb,yee,ydy,if_false,Option.some.injEq] at h
     rcases hk with z | z
     . exact hc _ m (h.trans z)
     . exact hq (h.trans z)
def qd6 {scope:Scope} {env:Env} {x:Str} (h:scope.names.lookup x=some .free):(relabel scope env).names.lookup x≠some .local:=by
 intro q
 unfold relabel at q
 dsimp only at q
 rw [qcH _ (fun p=>by obtain ⟨n,k⟩:=p;dsimp only;split<;>rfl),h] at q
 dsimp only [Option.map] at q
 split at q<;>cases q
def qlH (sc:Scope) (NX N:List Str) (nt:Nat) (caps:List Nat) (scope:Scope):Bool :=
 scope.names.all (fun y=>!(y.2 == .cell))&&scope.kind == .function&&scope.names.all (fun y=>!(y.2 == .local)||scope.names.lookup y.1==some .local)
 && scope.names.all (fun y=>!(y.2 == .free)||sc.names.lookup y.1==some .cell||sc.names.lookup y.1==some .free)
 && (List.range caps.length).all (fun j=>match NX[caps.getD j 0]? with
   | some x=>N[nt+j]?==some x&&scope.names.any (fun y=>y.1==x&&y.2 == .free)&&scope.names.lookup x==some .free
   | none=>false)
 && N.length==nt+caps.length
def qaT {X:Cx} {N:List Str} {nt:Nat} {caps:List Nat} {scope:Scope} (h:qlH X.env.scope X.N N nt caps scope=true:=by rfl):qfJ X N nt caps scope:=by
 unfold qlH at h
 simp only [yab,ybf,yff,yaw,beq_iff_eq,beq_eq_false_iff_ne,ne_eq] at h
 obtain ⟨⟨⟨⟨⟨h1,h2⟩,h3⟩,h4⟩,h5⟩,h6⟩:=h
 refine ⟨fun y hy=>h1 y hy,h2,fun y hy e=>(h3 y hy).resolve_left fun z=>z e,fun n hn=>?_,fun j i e=>?_,h6⟩
 . rcases h4 (n,.free) hn with (z | z) | z
   . exact absurd rfl z
   . exact .inl z
   . exact .inr z
 . obtain ⟨hj,e'⟩:=ycd.mp e
   have q:=h5 j (ybh.mpr hj)
   have eg:caps.getD j 0=i:=by rw [yfg,e];rfl
   rw [eg] at q
   cases hx:X.N[i]? with
   | none=>rw [hx] at q;cases q
   | some x =>
     rw [hx] at q
     simp only [yab,beq_iff_eq,ybj] at q
     obtain ⟨⟨q1,y,hy,e1,e2⟩,q3⟩:=q
     refine ⟨x,rfl,q1,?_,q3⟩
     obtain ⟨n,k⟩:=y
     cases e1;cases e2
     exact hy
section
variable {X:Cx} {tg iter elt:Expr} {ifs:List Expr} {scope:Scope} {pos:Pos} {N:List Str} {nt:Nat} {caps:List Nat} {wi:TI} {g:TG} {tt:TT} {te:TE} {cl:List (Str×Addr)}
def qiN {pins:List (Addr×Obj)} {σ:St} {H:Hp} {s:Shared} {it:Addr} {fp:List Addr} {tn:Nat->Heap->Prop} {J:It} {RR:Value->Addr->Result->Shared->Prop} {E:Value->Shared->Prop}
   (ok:qfJ X N nt caps scope) (hc:X.calm=true) (h1:∀n c,cl.lookup n=some c->X.env.cells.lookup n=some c) (h2:∀n,(n,NameKind.free)∈scope.names->∃c,cl.lookup n=some c)
   (hg:∀cl C s H fp,PG (blk X N scope cl C s H fp) tg g) (hgk:qh8 nt g) (ht:∀cl C s H fp,PTs (blk X N scope cl C s H fp) ifs tt) (he:∀cl C s H fp,PE (blk X N scope cl C s H fp) elt te)
   (I:Inv X pins σ H s) (T:qpN X.prog X.w X.K tg J fp it tn) (st:tn 0 s.heap) (hf:∀b∈fp,qhL X pins H b)
   (W:Nat->Nat->List V->Hp->Prop) (Z:List V->Hp->Prop) (m0:Nat) (w0:W 0 m0 [] H)
   (turn:∀i m ys H2,W i m ys H2->(J.stop i H2/\Z ys H2) \/
     (J.go i H2/\ys.length<sizeLine/\∀x H3,J.yld i H2 x H3->g x (qbr nt caps σ) H3 fun σ4 H4=>tt σ4 H4 fun b H5 =>
       if b=true then te σ4 H5 fun y H6=>∃m',m'<m/\W (i+1) m' (ys++[y]) H6 else ∃m',m'<m/\W (i+1) m' ys H5))
   (hRR:∀(C:Addr) (s':Shared) (ys:List V) (its:List Value) (n:Nat) (H':Hp),s.heap.objs.size<C->qaV ys its->Inv (blk X N scope cl C s H fp) [] (qbr nt caps σ) H' s' ->
     s'.heap.get? s.heap.objs.size=some { cls := .type "list",data := .seq its.toArray n }->H' s.heap.objs.size=none->Z ys H'->RR (.ref s.heap.objs.size) C (.ok .next) s') :
   wpAny (model X.prog X.w) X.A (newList []) (fun acc s₃=>wpAny (model X.prog X.w) X.A (newFunctionEnv scope X.env.globals cl [] X.env.qual none .none (some X.env)) (fun cenv s₄ =>
     codeAny (model X.prog X.w) X.A (.compStart (.ListComp elt [⟨tg,iter,ifs,0⟩] scope pos) 0 (.ref it) acc { cenv with scope:=relabel scope X.env }) (RR acc cenv.locals) s₄) E s₃) E s:=by
 refine wpAny_newObj_type (wpAny_newFunctionEnv ok.cell (by intro y hy;simp at hy) (fun h₁ hns₁ hsb₁=>?_) ok.kind)
 dsimp only at hns₁ hsb₁ ⊢
 generalize hG:s.heap.push { cls := .type "list",dict:=none,data := .seq ([]:List Value).toArray }=G at hns₁ hsb₁ ⊢
 have hC:G.objs.size=s.heap.objs.size+1:=by rw [<-hG,ydg]
 have hDC:s.heap.objs.size≠G.objs.size:=by rw [hC];exact ydh (yck _)
 have hlt:s.heap.objs.size<G.objs.size:=by rw [hC];exact yck _
 have old:∀b o,s.heap.get? b=some o->h₁.get? b=some o:=fun b o e =>
   hsb₁.extBut b o (ydh (ybl (ydf e) hlt)) (yde _ (hG▸yde _ e))
 have hacc:h₁.get? s.heap.objs.size=some { cls := .type "list",data := .seq ([]:List Value).toArray 0 }:=hsb₁.extBut _ _ hDC (yde _ (hG▸ydd _ rfl))
 have fpD:∀b∈fp,b<s.heap.objs.size:=fun b hb=>by
   obtain ⟨o,e,_⟩:=T.obj _ _ st b hb
   exact ydf e
 have celt:∀n c,cl.lookup n=some c->c<s.heap.objs.size:=fun n c e=>by
   obtain ⟨v,q⟩:=I.cell n c (h1 n c e)
   exact q.lt
 have YOk:(blk X N scope cl G.objs.size s H fp).Ok:=by
   refine ⟨I.ok.mod,ok.kind,I.ok.glob,I.ok.blt,yce hlt,fun x y c e e'=>I.ok.inj x y c (h1 x c e) (h1 y c e'),fun x hx=>?_,fun x c hx _=>(nomatch hx),I.ok.hd,I.ok.frames,.inl rfl,
     fun b hb=>⟨ydh (ybl (fpD b hb) hlt),fun x c e z=>?_⟩,fun b o e=>I.bs b o e,ycf I.ok.bsz I.sz,fun b o e hb=>?_,fun b hb hz=>?_,I.stack,I.stkFree⟩
   . rcases hx with hx | hx
     . exact h2 x (qb7 ok.cell hx (.inl rfl))
     . exact h2 x (qb7 ok.cell hx (.inr rfl))
   . exact (hf b hb).2.2.2.2.1 x c (h1 x c e) z
   . rcases (hf b hb).2.2.2.1 with z | z
     . exact I.ok.noex b o e z
     . exact absurd (yae (ydf e) (ycf I.ok.bsz z)) (ydz _)
   . rcases ybd.mp (I.stkSub b hz) with z | z
     . exact (hf b hb).2.1 z
     . exact (hf b hb).2.2.1 z
 have lenb:(qbr nt caps σ).length=N.length:=by rw [ok.len];simp [qbr]
 have IY:Inv (blk X N scope cl G.objs.size s H fp) [] (qbr nt caps σ) H { s with heap:=h₁,toks:=s.toks+([]:List (Str×Value)).length }:=by
   refine ⟨YOk,rfl,I.bare,Un.kept old,⟨_,hns₁,fun i x v e1 e2 e3=>?_⟩,fun x c e=>?_,I.hok.fresh (yce hlt),fun x c e=>I.freeC x c (h1 x c e),fun p hp=>(nomatch hp),I.hok.kept old,lenb⟩
   . have hi:nt<=i:=by
       rcases yag i nt with z | z
       . exfalso
         unfold qbr at e2
         rw [yep (by simpa using z),yeo] at e2
         split at e2<;>cases e2
       . exact z
     unfold qbr at e2
     rw [yen (by simpa using hi),yeq,ydr] at e2
     cases ej:caps[i-nt]? with
     | none=>rw [ej] at e2;cases e2
     | some j =>
       rw [ej] at e2
       have e2':(σ[j]?).join=some v:=by simpa using e2
       have e2'':σ[j]?=some (some v):=by
         cases q:σ[j]? with
         | none=>rw [q] at e2';cases e2'
         | some z=>rw [q] at e2';simp at e2';rw [e2']
       obtain ⟨y,y1,y2,y3,y4⟩:=ok.cap _ _ ej
       have:nt+(i-nt)=i:=by omega
       rw [this] at y2
       have e1':N[i]?=some x:=e1
       rw [e1'] at y2
       cases y2
       obtain ⟨m,hn,hl⟩:=I.loc
       have kx:=ok.free x y3
       have vx:Vis X.env.scope x:=by
         rcases kx with z | z
         . exact .inr (.inl z)
         . exact .inr (.inr z)
       obtain ⟨u,r,l⟩:=hl j x v y1 e2'' vx
       refine ⟨u,r,.inr ⟨?_,?_⟩⟩
       . rcases e3 with z | z | z
         . exact absurd z (qd6 y4)
         . exact .inl z
         . exact .inr z
       . obtain ⟨c,hcl⟩:=h2 x y3
         refine ⟨c,hcl,?_⟩
         rcases l with ⟨k,_⟩ | ⟨_,c',hc',o,ho,hd⟩
         . rcases kx with z | z<;>(rw [z] at k;cases k)
         . have:c=c':=Option.some.inj ((h1 x c hcl).symm.trans hc')
           subst this
           exact ⟨o,old c o ho,hd⟩
   . obtain ⟨v,o,ho,hd⟩:=I.cell x c (h1 x c e)
     exact ⟨v,o,old c o ho,hd⟩
 -- the loop
 have stat:∀{pn:List (Addr×Obj)} {H':Hp},(∀b∈fp,H' b=none)->(∀p∈pn,s.heap.objs.size<=p.1)->∀b∈fp,qhL (blk X N scope cl G.objs.size s H fp) pn H' b:=fun {pn H'} hn hpn b hb =>
   ⟨hn b hb,ydh (ybl (fpD b hb) hlt),fun hz=>(YOk.exfs b hb hz).elim,.inl hb,fun x c e z=>(hf b hb).2.2.2.2.1 x c (h1 x c e) z,fun p hp z=>by
     have hp':p∈pn:=by simpa [blk] using hp
     have:=hpn p hp'
     rw [z] at this
     exact absurd (yae (fpD b hb) this) (ydz _)⟩
 have hDf:s.heap.objs.size∉fp:=fun hm=>ydz _ (fpD _ hm)
 have hDs:s.heap.objs.size∉frs X.stack:=fun hm=>by
   rcases ybd.mp (I.stkSub _ hm) with z | z
   . exact absurd I.lt (by rw [<-z];exact ydz _)
   . exact I.nofs (yax _) z
 have loop:∀s₃:Shared,s₃={ s with heap:=h₁,toks:=s.toks+([]:List (Str×Value)).length } ->
     codeAny (model X.prog X.w) X.A (.compLoop (.ListComp elt [⟨tg,iter,ifs,0⟩] scope pos) 0 (.ref it) (.ref s.heap.objs.size) (compEnvC scope cl G.objs.size X.env)) (RR (.ref s.heap.objs.size) G.objs.size) s₃:=by
   rintro s₃ rfl
   refine qhx (fun n s'=>∃i ys its k H',Inv (blk X N scope cl G.objs.size s H fp) [] (qbr nt caps σ) H' s'/\tn i s'.heap/\(∀b∈fp,H' b=none)/\qaV ys its /\
     s'.heap.get? s.heap.objs.size=some { cls := .type "list",data := .seq its.toArray k }/\H' s.heap.objs.size=none/\ys.length<=sizeLine/\W i n ys H') ?_ m0
     ⟨0,[],[],0,H,IY,T.keep _ _ _ st fun b hb o e=>old b o e,fun b hb=>(hf b hb).1,.nil,hacc,I.hok.fresh (yax _),ych _,w0⟩
   rintro n s3 ⟨i,ys,its,k,H3,I3,st3,fr3,v3,a3,n3,z3,w3⟩
   have I3p:Inv (blk X N scope cl G.objs.size s H fp) [(s.heap.objs.size,{ cls := .type "list",data := .seq its.toArray k })] (qbr nt caps σ) H3 s3:=I3.pins_of fun p hp=>by
     have e:p=(s.heap.objs.size,{ cls := .type "list",data := .seq its.toArray k }):=by simpa using hp
     subst e
     exact ⟨a3,n3,hDC,hDs,fun v z=>by cases z⟩
   have pn3:∀p∈[(s.heap.objs.size,({ cls := .type "list",data := .seq its.toArray k }:Obj))],s.heap.objs.size<=p.1:=fun p hp=>by
     have e:p=(s.heap.objs.size,{ cls := .type "list",data := .seq its.toArray k }):=by simpa using hp
     subst e
     exact yax _
   rcases turn i n ys H3 w3 with ⟨stop,zz⟩ | ⟨go,hlen,step⟩
   . refine thn (T.done (blk X N scope cl G.objs.size s H fp) rfl rfl rfl hc i _ s3 _ H3 _ I3p (stat fr3 pn3) st3 stop) fun r s4 ⟨hr,I4⟩=>?_
     subst hr
     have a4:=I4.pin (s.heap.objs.size,{ cls := .type "list",data := .seq its.toArray k }) (yef _ (by simp))
     exact hRR _ s4 ys its k H3 hlt v3 (I4.pins_of fun _ hp=>nomatch hp) a4.1 n3 zz
   . refine thn (T.item (blk X N scope cl G.objs.size s H fp) rfl rfl rfl hc i _ s3 _ H3 _ I3p (stat fr3 pn3) st3 go) fun r s4 ⟨u,hr,h4⟩=>?_
     subst hr
     refine thn h4 fun _ s5 ⟨x,H5,I5,r5,y5,st5,fr5⟩=>?_
     have I5':=I5.pinned (stat fr5 pn3) (T.obj _ _ st5)
     refine thn (hg _ _ _ _ _ _ s5 _ H5 x u _ I5' r5 (hgk _ _ _ _ (step x H5 y5))) fun _ s6 ⟨σ6,H6,I6,kp6,q6⟩=>?_
     refine thn (ht _ _ _ _ _ _ s6 σ6 H6 _ I6 q6) fun b s7 ⟨H7,I7,q7⟩=>?_
     have qpY:∀{H8:Hp} {s8:Shared},Inv (blk X N scope cl G.objs.size s H fp) ([(s.heap.objs.size,({ cls := .type "list",data := .seq its.toArray k }:Obj))]++qdy fp s5.heap) σ6 H8 s8 ->
         Inv (blk X N scope cl G.objs.size s H fp) [] (qbr nt caps σ) H8 s8/\tn (i+1) s8.heap/\(∀b∈fp,H8 b=none)/\s8.heap.get? s.heap.objs.size=some { cls := .type "list",data := .seq its.toArray k }/\H8 s.heap.objs.size=none:=fun {H8 s8} I8=>by
       have a8:=I8.pin (s.heap.objs.size,{ cls := .type "list",data := .seq its.toArray k }) (yef _ (yas _ (by simp)))
       refine ⟨(I8.pins_of (pins':=[]) fun _ hp=>absurd hp (by simp)).weak (by rw [lenb,I8.len];rfl) kp6,T.keep _ _ _ st5 fun b hb o e=>(I8.pin (b,o) (yef _ (yef _ (qbA hb e)))).1,fun b hb=>?_,a8.1,a8.2.1⟩
       obtain ⟨o,e,d⟩:=T.obj _ _ st5 b hb
       exact (I8.pin (b,o) (yef _ (yef _ (qbA hb e)))).2.1
     cases b with
     | false =>
       rw [if_neg (by intro z;cases z)] at q7 ⊢
       obtain ⟨m',hm,w7⟩:=q7
       obtain ⟨b1,b2,b3,b4,b5⟩:=qpY I7
       exact ⟨m',hm,i+1,ys,its,k,H7,b1,b2,b3,v3,b4,b5,z3,w7⟩
     | true =>
       rw [if_pos rfl] at q7 ⊢
       refine thn (he _ _ _ _ _ _ s7 σ6 H7 _ I7 q7) fun u8 s8 ⟨y,H8,I8,r8,m',hm,w8⟩=>?_
       obtain ⟨b1,b2,b3,b4,b5⟩:=qpY I8
       have hl:=v3.length
       refine call_meets F.slot_list_append ⟨_,b4,rfl⟩ F.entry_list_append (F.args_list_append_2 _ _) (PySem.list_append s.heap.objs.size its.toArray k u8 (by rw [yeu];omega)) ⟨b4,?_⟩
       have q:=PySem.IsL.update (show PySem.IsL s8.heap s.heap.objs.size its.toArray k from b4) (fun x=>x.push u8)
       have eq:its.toArray.push u8=(its++[u8]).toArray:=by simp
       rw [eq] at q
       have keep:∀b' o,b'≠s.heap.objs.size->s8.heap.get? b'=some o->(s8.heap.update s.heap.objs.size (Obj.mapSeq fun x=>x.push u8)).get? b'=some o:=fun b' o hb hu =>
         (ydq s8.heap (Obj.mapSeq fun x=>x.push u8) (Ne.symm hb)).trans hu
       refine ⟨m',hm,i+1,ys++[y],its++[u8],_,H8,b1.turned (t':=s8.toks) keep b5 hDC (.inr (yax _)) (fun x c e z=>?_) (fun p hp=>by simp [blk] at hp),T.keep _ _ _ b2 fun b hb o e=>keep b o (fun z=>hDf (z▸hb)) e,b3,
         v3.append (.cons r8 .nil),q,b5,?_,w8⟩
       . exact absurd (celt x c e) (by rw [z];exact ydz _)
       . rw [yby,yex];omega
 exact codeAny_compStart_list (loop _ rfl) (T.self _ 0 _ _ _ (T.keep _ _ _ st fun b hb o e=>old b o e) (loop _ rfl))
def qe5 {pins:List (Addr×Obj)} {σ:St} {H H':Hp} {s s':Shared} {fp:List Addr} {C:Addr} {ys:List V} {its:List Value} {n:Nat} {σb:St} {h':Heap}
   (I:Inv X pins σ H s) (hf:∀b∈fp,qhL X pins H b) (hC:s.heap.objs.size<C) (v:qaV ys its) (hz:ys.length<=sizeLine) (IY:Inv (blk X N scope cl C s H fp) [] σb H' s')
   (e:s'.heap.get? s.heap.objs.size=some { cls := .type "list",data := .seq its.toArray n }) (en:H' s.heap.objs.size=none) (hs:∀b o,b≠C->s'.heap.get? b=some o->h'.get? b=some o) :
   Inv X pins σ (upd H' s.heap.objs.size (.lst ys)) { s' with heap:=h' }:=by
 have hCn:H' C=none:=IY.free
 have hok:HOk X.prog X.w H' h':=fun b u q=>by
   have nC:∀c u',H' c=some u'->c≠C:=fun c u' q' z=>by rw [z,hCn] at q';cases q'
   refine (IY.hok b u q).stay (fun c w' hc q'=>hs c w' ?_ q') (fun _ q'=>q') fun _ _ q'=>q'
   rcases hc with z | z
   . rw [z];exact nC b u q
   . exact nC c _ z
 have lt:∀b o,s.heap.get? b=some o->b≠C:=fun b o q=>ydh (ybl (ydf q) hC)
 have u:Un (frs X.stack) fp H H' s.heap h':=⟨fun b o q nn hb hx=>hs b o (lt b o q) (IY.base.keep b o q nn hb hx),fun b o q nn hb hx=>by
     obtain ⟨sl,q'⟩:=IY.base.slot b o q nn hb hx
     exact ⟨sl,hs b _ (lt b o q) q'⟩,IY.base.free,fun b o q hx=>by
     obtain ⟨o',q'⟩:=IY.base.there b o q hx
     exact ⟨o',hs b o' (lt b o q) q'⟩,IY.base.tups,IY.base.frzs,IY.base.tbls⟩
 have I1:Inv X pins σ H' { s' with heap:=h' }:=I.call' (s':={ s' with heap:=h' }) (ch:=fp) IY.os u hok IY.bare fun b hb=>⟨(hf b hb).2.2.2.1,(hf b hb).2.1,(hf b hb).2.2.2.2.1,(hf b hb).2.2.2.2.2⟩
 have hD:h'.get? s.heap.objs.size=some { cls := .type "list",data := .seq its.toArray n }:=hs _ _ (ydh hC) e
 exact I1.track (by
   have f:=I.fpOk (H':=H') (b:=s.heap.objs.size) (yax _) en
   exact f) ⟨hz,its,n,v,hD⟩
def qbj (ok:qfJ X N nt caps scope) (hc:X.calm=true) (hi:PI X tg iter wi)
   (hg:∀cl C s H fp,PG (blk X N scope cl C s H fp) tg g) (hgk:qh8 nt g) (ht:∀cl C s H fp,PTs (blk X N scope cl C s H fp) ifs tt) (he:∀cl C s H fp,PE (blk X N scope cl C s H fp) elt te)
   (hs:∀x,foldedSetIterable iter X.env x=pure x:=by intro _;rfl):PE X (.ListComp elt [⟨tg,iter,ifs,0⟩] scope pos) (qfy nt caps wi g tt te):=by
 intro pins s σ H Q I h
 obtain ⟨cl,hcl,h1,h2⟩:=qcA (scope:=scope) (env:=X.env) fun n hn=>I.ok.has n (ok.free n hn)
 rw [eval_ListComp]
 refine wpAny_comprehension_free (use:=none) rfl hs hcl ok.kind ok.names (thn (hi pins s σ H _ I h) fun xv s1 h1'=>thn h1' fun itv s2 h2'=>?_)
 obtain ⟨it,fp,tn,J,H2,e,I2,T,st2,f2,W,⟨m0,w0⟩,turn⟩:=h2'
 subst e
 refine qiN (RR:=fun acc C=>compPost (model X.prog X.w) X.A X.xe none (EP X pins σ Q) acc C) ok hc h1 h2 hg hgk ht he I2 T st2 f2 W (fun ys H'=>ys.length<=sizeLine/\∀p,H' p=none->Q (.ref p) (upd H' p (.lst ys))) m0 w0 turn ?_
 intro C s' ys its n H' hC v IY e en zz
 obtain ⟨m,hn,_⟩:=IY.loc
 exact ⟨m,hn,fun h' hs'=>⟨.ref s2.heap.objs.size,_,qe5 I2 f2 hC v zz.1 IY e en (fun b o hb q=>hs'.extBut b o hb q),rfl,zz.2 _ en⟩⟩
def qpi {i:Nat} {y:Str} {py spos:Pos} (hN:X.N.Nodup) (hyi:X.N[i]?=some y) (hy:X.env.scope.names.lookup y=some .local) (hsw:swapsWith (.ListComp elt [⟨tg,iter,ifs,0⟩] scope pos) (some (.Name y py)) spos.line X.env=pure true)
   (ok:qfJ X N nt caps scope) (hc:X.calm=true) (hi:PI X tg iter wi)
   (hg:∀cl C s H fp,PG (blk X N scope cl C s H fp) tg g) (hgk:qh8 nt g) (ht:∀cl C s H fp,PTs (blk X N scope cl C s H fp) ifs tt) (he:∀cl C s H fp,PE (blk X N scope cl C s H fp) elt te)
   (hs:∀x,foldedSetIterable iter X.env x=pure x:=by intro _;rfl):PS X (.Assign [.Name y py] (.ListComp elt [⟨tg,iter,ifs,0⟩] scope pos) spos) (qnK (qfy nt caps wi g tt te) (qel i)):=by
 intro pins s σ H D I h
 obtain ⟨cl,hcl,h1,h2⟩:=qcA (scope:=scope) (env:=X.env) fun n hn=>I.ok.has n (ok.free n hn)
 rw [exec_Assign_Name_used _ _ _ _ hsw]
 refine wpAny_bind (wpAny_standAt (wpAny_bind ?_))
 show wpAny _ X.A (do let _ <-comprehension (.ListComp elt [⟨tg,iter,ifs,0⟩] scope pos) scope X.env _ (newList []) false (eval iter X.env) (some (assign (.Name y py) X.env))) _ _ s
 refine wpAny_bind (wpAny_mono (wpAny_comprehension_free (use:=some (assign (.Name y py) X.env)) (Q:=fun _ s'=>SP X pins D .next s') rfl hs hcl ok.kind ok.names
   (thn (hi pins s σ H _ I h) fun xv s1 h1'=>thn h1' fun itv s2 h2'=>?_)) (fun _ s' hq=>wpAny_pure (wpAny_pure hq)) fun _ _ e=>e)
 obtain ⟨it,fp,tn,J,H2,e,I2,T,st2,f2,W,⟨m0,w0⟩,turn⟩:=h2'
 subst e
 refine qiN (RR:=fun acc C=>compPost (model X.prog X.w) X.A X.xe (some (assign (.Name y py) X.env)) (fun _ s'=>SP X pins D .next s') acc C) ok hc h1 h2 hg hgk ht he I2 T st2 f2 W
   (fun ys H'=>ys.length<=sizeLine/\∀p,H' p=none->qel i (.ref p) σ (upd H' p (.lst ys)) D.nx) m0 w0 turn ?_
 intro C s' ys its n H' hC v IY e en zz
 obtain ⟨m,hn,_⟩:=IY.loc
 have I3:Inv X pins σ (upd H' s2.heap.objs.size (.lst ys)) s':=qe5 (h':=s'.heap) I2 f2 hC v zz.1 IY e en fun b o hb q=>q
 obtain ⟨o,es,ep,ho,r⟩:=id hn
 have fC:qhL X pins (upd H' s2.heap.objs.size (.lst ys)) C:=by
   have f:=I2.fpOk (H':=H') (b:=C) (yce hC) IY.free
   refine ⟨by rw [qap (Ne.symm (ydh hC))];exact IY.free,f.2⟩
 show wpAny (model X.prog X.w) X.A (assign (.Name y py) X.env (.ref s2.heap.objs.size)) (fun _ s''=>∃m,s''.heap.Ns C m/\∀h',Heap.SameBut C s''.heap h'->SP X pins D .next { s'' with heap:=h' }) X.xe s'
 have I3p:Inv X (pins++[(C,o)]) σ (upd H' s2.heap.objs.size (.lst ys)) s':=I3.pins_of fun p hp=>by
   rcases yat.mp hp with z | z
   . exact I3.pin p (yef _ z)
   . have e:p=(C,o):=by simpa using z
     subst e
     exact ⟨ho,fC.1,fC.2.1,fC.2.2.1,fun v z=>by rw [r.1] at z;cases z⟩
 refine wpAny_assign_Name (qcU I3p hN hyi (.inl hy) (v := .ref s2.heap.objs.size) rfl (fun s4 I4=>?_) (.inr hy))
 have a4:=I4.pin (C,o) (yef _ (yef _ (by simp)))
 refine ⟨m,⟨o,es,ep,a4.1,r⟩,fun h' hs'=>⟨_,_,?_,zz.2 _ en⟩⟩
 exact (I4.unpinned).turned (t':=s4.toks) (fun b o' hb q=>hs'.extBut b o' hb q) fC.1 fC.2.1 fC.2.2.2.1 fC.2.2.2.2.1 fC.2.2.2.2.2
end
end L2
namespace L2
open PySem PySem.Spec PyProof.Rows
structure Cal (P:Program) (w:World) (K:PySem.W.Frag) (mg:Str->Option Value) (base:Heap) (x:Str) (k:Nat) (ps:List Str) (sp:Sp) (f:Addr) (fd:FuncData):Prop where
 ok:qaN P w K mg base CX0 k f fd ps sp
 mg:mg x=some (.ref f)
 kp:PySem.W.keepIn K (.ref f)=true
 bd:qdC K fd ps []
section
variable {X:Cx} {x:Str} {p pos:Pos} {e:Expr} {es:List Expr} {t:TA} {k j:Nat} {ps:List Str} {sp:Sp} {f:Addr} {fd:FuncData}
def qq4 (C:Cal X.prog X.w X.K X.mg X.base x k ps sp f fd) (hr:qcZ j X.A) (hj:k<=j) (hg:Gl X x) (ha:PA X (e::es) t) (hdb:(x==("__debug__" : Str))=false:=by decide)
 (he:starEach (e::es) X.env=(false,eval e X.env)::starEach es X.env:=by rfl) (hpl:(backTo pos (starEach es X.env)).any (·.1)=false:=by rfl) :
 PE X (.Call (.Name x p) (e::es) [] pos) (qky sp [] E0 t):=qkU C.ok (hr.mono hj) hg C.mg C.kp C.bd .nil qqm ha hdb he hpl
end
section
variable {X:Cx}
def qoF (i j:Int):Prop:=0<j/\j<2^200
def qoF.log {i j:Int} (h:qoF i j):j.natAbs.log2<9000:=by
 have h1:0<j:=h.1
 have h2:j<2^200:=h.2
 have h3:j.natAbs<2^200:=by omega
 have h4:j.natAbs≠0:=by omega
 have:=(Nat.log2_lt h4).mpr h3
 omega
def ql1:OpR X (binaryOp .FloorDiv) (rI qoF fun i j => .int (i/j)):=opI fun i j _ _ _ _ _ hc q=>by
 have h1:(0:Int)<j:=hc.1
 exact floordiv_int (by omega) (by rw [yeg i (by omega)];exact q) (.inl (PyProof.noPylong_of_log2 hc.log))
def qkT (H:Hp):V->Option String
 | .non=>some "NoneType"
 | .bl _=>some "bool"
 | .int _=>some "int"
 | .str _=>some "str"
 | .ref a=>match H a with
   | some (.lst _)=>some "list"
   | some (.frz _ (.lst _))=>some "list"
   | some (.tup _)=>some "tuple"
   | some (.dK _)=>some "dict"
   | _=>none
 | _=>none
def qlO (t c:String):Bool:=t==c||(t == "bool" && c == "int")
def qor (K:PySem.W.Frag):∀t∈["NoneType", "bool", "int", "str", "list", "tuple", "dict"],∀c∈["int", "bool", "list", "tuple", "str"],PySem.W.kitOne K (.type t) (.type c)=some (qlO t c):=by
 intro t ht c hc
 simp only [ybd,ydj,or_false] at ht hc
 rcases ht with rfl | rfl | rfl | rfl | rfl | rfl | rfl<;>rcases hc with rfl | rfl | rfl | rfl | rfl<;>rfl
def qoL {K:PySem.W.Frag} {H:Hp} {x:V} {t:String} (h:qkT H x=some t):qjt K H x (.type t)/\t∈["NoneType", "bool", "int", "str", "list", "tuple", "dict"]:=by
 cases x with
 | non=>cases h;exact ⟨.non,by decide⟩
 | bl b=>cases h;exact ⟨.bl b,by decide⟩
 | int i=>cases h;exact ⟨.int i,by decide⟩
 | str z=>cases h;exact ⟨.str z,by decide⟩
 | ref a =>
   unfold qkT at h
   dsimp only at h
   split at h
   . rename_i e;cases h;exact ⟨.lst e,by decide⟩
   . rename_i e;cases h;exact ⟨.frz e,by decide⟩
   . rename_i e;cases h;exact ⟨.tup e,by decide⟩
   . rename_i e;cases h;exact ⟨.dK e,by decide⟩
   . cases h
 | _=>cases h
def qkC:List V->Hp->VK->Prop:=fun xs H Q=>∃x c t,xs=[x,.ty c]/\qkT H x=some t/\c∈["int", "bool", "list", "tuple", "str"]/\Q (.bl (qlO t c)) H
def qb2:qcl X (.builtin "isinstance") qkC:=by
 intro pins s σ H xs us Q I r h
 obtain ⟨x,c,t,rfl,hk,hc,q⟩:=h
 obtain ⟨u,w',rfl,rx,ry⟩:=qmi r
 cases (show w'=Value.type c from ry)
 obtain ⟨ty,ht⟩:=qoL (K:=X.K) hk
 exact qlf I rx ty (qor X.K t ht c hc) fun tk=>⟨.bl _,H,I.tok _,rfl,q⟩
def qgR (xs ys:List V):Bool:=xs.length==ys.length&&(List.range xs.length).all fun j=>eqV (xs.getD j .non) (ys.getD j .non)
def qlD (ns ms:List Int):qgR (ns.map V.int) (ms.map V.int)=decide (ns=ms):=by
 unfold qgR
 rw [ybz,ybz]
 by_cases hl:ns.length=ms.length
 . rw [show (ns.length==ms.length)=true by simpa using hl,yfh]
   rw [yav,ybf,decide_eq_true_eq]
   constructor
   . intro h
     refine ydv hl fun i h1 h2=>?_
     have q:=h i (ybh.mpr h1)
     simpa [List.getD,h1,h2,eqV] using q
   . rintro rfl j hj
     have hj':=ybh.mp hj
     simp [List.getD,hj',eqV]
 . rw [show (ns.length==ms.length)=false by simpa using hl,yee]
   exact (decide_eq_false fun e=>hl (by rw [e])).symm
def qqI (K:PySem.W.Frag):R2:=fun x y H Q=>∃a b xs ys,x = .ref a/\y = .ref b/\SqL K H a xs/\SqL K H b ys/\xs.all qbL=true/\ys.all qbL=true/\Q (.bl (qgR xs ys)) H
def qqL (K:PySem.W.Frag):R2:=fun x y H Q=>∃a b xs ys,x = .ref a/\y = .ref b/\SqL K H a xs/\SqL K H b ys/\xs.all qbL=true/\ys.all qbL=true/\Q (.bl (!qgR xs ys)) H
def qg1 {A:Around} {s:Shared} {xs ys:List V} {us ws:List Value} (rx:qaV xs us) (ry:qaV ys ws) (fx:xs.all qbL=true) (fy:ys.all qbL=true) (j:Nat) (h1:j<us.toArray.size) (h2:j<ws.toArray.size) :
   SeqAt.EqAt A s us.toArray[j] ws.toArray[j] (eqV (xs.getD j .non) (ys.getD j .non)):=by
 have l1:=rx.length
 have l2:=ry.length
 rw [yeu] at h1 h2
 have e1:xs[j]?=some (xs.getD j .non):=by rw [yfg,ybu (by omega)];rfl
 have e2:ys[j]?=some (ys.getD j .non):=by rw [yfg,ybu (by omega)];rfl
 obtain ⟨u,hu,ru⟩:=rx.get e1
 obtain ⟨v,hv,rv⟩:=ry.get e2
 have g1:us.toArray[j]=u:=by
   rw [yfi]
   exact Option.some.inj ((ybu h1).symm.trans hu)
 have g2:ws.toArray[j]=v:=by
   rw [yfi]
   exact Option.some.inj ((ybu h2).symm.trans hv)
 rw [g1,g2]
 exact qno ru rv (ybf.mp fx _ (ybv e1)) (ybf.mp fy _ (ybv e2))
def qrj (hu:X.A.units<cLine):OpR X (compareOp .Eq) (qqI X.K):=by
 intro pins s σ H x y v u Q I rx ry h
 obtain ⟨a,b,xs,ys,rfl,rfl,ha,hb,fx,fy,q⟩:=h
 cases rx
 cases ry
 obtain ⟨us,r1,p1,z1⟩:=I.list ha
 obtain ⟨ws,r2,p2,z2⟩:=I.list hb
 have l1:=r1.length
 have l2:=r2.length
 by_cases hl:xs.length=ys.length
 . refine SeqAt.eq_listAt p1.isList p2.isList (by simp only [yeu];omega) hu (fun j h1 h2=>qg1 r1 r2 fx fy j h1 h2) ⟨.bl _,H,I,rfl,?_⟩
   have e:qgR xs ys=(List.range us.toArray.size).all fun j=>eqV (xs.getD j .non) (ys.getD j .non):=by
     unfold qgR
     rw [show (xs.length==ys.length)=true by simpa using hl,yfh,yeu,l1]
   rw [<-e]
   exact q
 . refine SeqAt.eq_list_lengthsAt p1.isList p2.isList (by simp only [yeu,bne_iff_ne];omega) hu ⟨.bl _,H,I,rfl,?_⟩
   have e:qgR xs ys=false:=by
     unfold qgR
     rw [show (xs.length==ys.length)=false by simpa using hl,yee]
   rw [<-e]
   exact q
def qp4 (hu:X.A.units<cLine):OpR X (compareOp .NotEq) (qqL X.K):=by
 intro pins s σ H x y v u Q I rx ry h
 obtain ⟨a,b,xs,ys,rfl,rfl,ha,hb,fx,fy,q⟩:=h
 cases rx
 cases ry
 obtain ⟨us,r1,p1,z1⟩:=I.list ha
 obtain ⟨ws,r2,p2,z2⟩:=I.list hb
 have l1:=r1.length
 have l2:=r2.length
 by_cases hl:xs.length=ys.length
 . refine SeqAt.RcNeAt.lists p1.isList p2.isList (by simp only [yeu];omega) hu (fun j h1 h2=>qg1 r1 r2 fx fy j h1 h2) X.prog X.w _ _ ⟨.bl _,H,I,rfl,?_⟩
   have e:qgR xs ys=(List.range us.toArray.size).all fun j=>eqV (xs.getD j .non) (ys.getD j .non):=by
     unfold qgR
     rw [show (xs.length==ys.length)=true by simpa using hl,yfh,yeu,l1]
   rw [<-e]
   exact q
 . refine SeqAt.RcNeAt.lists_lengths p1.isList p2.isList (by simp only [yeu,bne_iff_ne];omega) hu X.prog X.w _ _ ⟨.bl _,H,I,rfl,?_⟩
   have e:qgR xs ys=false:=by
     unfold qgR
     rw [show (xs.length==ys.length)=false by simpa using hl,yee]
   rw [e] at q
   exact q
def qpp (K:PySem.W.Frag):R2:=fun x y H Q=>∃l b xs zs,x = .ref l/\y = .ref b/\SqL K H l xs/\SqL K H b zs/\xs.length+zs.length<=sizeLine/\∀p,H p=none->Q (.ref p) (upd H p (.lst (xs++zs)))
def qoa:OpR X (binaryOp .Add) (qpp X.K):=by
 intro pins s σ H x y v u Q I rx ry h
 obtain ⟨l,b,xs,zs,rfl,rfl,hl,hb,hz,q⟩:=h
 cases rx
 cases ry
 obtain ⟨us,r1,p1,z1⟩:=I.list hl
 obtain ⟨ws,r2,p2,z2⟩:=I.list hb
 obtain ⟨⟨c1,d1,t1,s1⟩,n1,e1,ec1,ed1,et1⟩:=p1
 obtain ⟨⟨c2,d2,t2,s2⟩,n2,e2,ec2,ed2,et2⟩:=p2
 simp only at ec1 ed1 et1 ec2 ed2 et2
 subst ec1 ed1 et1 ec2 ed2 et2
 have l1:=r1.length
 have l2:=r2.length
 refine concat_meets ⟨_,e1,rfl⟩ ⟨_,e2,rfl⟩ noFill_list_add seq_list_add PySem.F.slot_list_add PySem.F.entry_list_add (PySem.F.args_list_add_2 _ _) (list_addW l b us.toArray ws.toArray n1 n2 none none s1 s2 (by simp only [yeu];omega)) ⟨e1,e2,?_⟩
 have ea:us.toArray++ws.toArray=(us++ws).toArray:=by simp
 rw [ea]
 exact ⟨.ref _,_,I.lnew (t':=s.toks) (r1.append r2) (by rw [yby];omega),rfl,q _ I.fresh⟩
def qsY:V->V->Bool
 | .bl _,.bl _=>true
 | .non,.bl _=>true
 | .bl _,.non=>true
 | .non,.non=>true
 | .int _,.bl _=>true
 | .int _,.non=>true
 | .str _,.bl _=>true
 | .str _,.non=>true
 | .ref _,.bl _=>true
 | .ref _,.non=>true
 | _,_=>false
def qr7 {x y:V} {v u:Value} (rx:qbg x v) (ry:qbg y u) (h:qsY x y=true):plainIs v u=true/\(v==u)=decide (x=y):=by
 cases x<;>cases y<;>first
   | exact absurd (show false=true from h) yeh
   | (cases rx;cases ry;exact ⟨rfl,rfl⟩)
   | (cases rx;cases ry;rename_i a b;cases a<;>cases b<;>exact ⟨rfl,rfl⟩)
   | (obtain ⟨t,rfl⟩:=rx;cases ry;exact ⟨rfl,rfl⟩)
def qnE:OpR X (compareOp .Is) (fun x y H Q=>qsY x y=true/\Q (.bl (decide (x=y))) H):=by
 intro pins s σ H x y v u Q I rx ry h
 obtain ⟨e1,e2⟩:=qr7 rx ry h.1
 exact wpAny_is_plain e1 ⟨.bl _,H,I,by rw [e2];rfl,h.2⟩
def qla:MtR X "int.bit_length" (fun x vs H Q=>∃i,x = .int i/\vs=[]/\Q (.int (Builtin.Int.intBits i)) H):=by
 intro pins s σ H x vs v us Q I rx rv h
 obtain ⟨i,rfl,rfl,q⟩:=h
 obtain ⟨t,rfl⟩:=rx
 cases rv
 exact call_int_bit_length ⟨.int _,H,I.tok _,⟨_,rfl⟩,q⟩
def qet {x:Str} {i:Int} {p:Pos} (h:∃t,X.mg x=some (.int i t)) (hg:Gl X x) (hd:(x==("__debug__" : Str))=false:=by decide):PE X (.Name x p) (tC (.int i)):=by
 obtain ⟨t,h⟩:=h
 exact qb5 hg h ⟨t,rfl⟩ hd
def qtk {CX:CXT} {P:Program} {w:World} {K:PySem.W.Frag} {mg:Str->Option Value} {base:Heap} {N:List Str} {qual:Str} {scope:Scope} {f:Addr} {cd:Value} {A:Around} {outer:List Env} {s:Shared} {H:Hp} {E:XK} :
 (qgS CX P w K mg base N qual scope f cd A outer s H E).K=K:=rfl
def qdw {K:PySem.W.Frag} {H:Hp} {a:Addr} {xs:List V} (h:H a=some (.lst xs)):tyV K "list" (.ref a) H := .inl ⟨rfl,xs,SqL.of h⟩
def qot {K:PySem.W.Frag} {H:Hp} {a:Addr} {xs:List V}:tyV K "list" (.ref a) (upd H a (.lst xs))↔True:=⟨fun _=>trivial,fun _=>qdw qaj⟩
def qqQ {H:Hp} {a:Addr} {xs:List V} (h:H a=some (.lst xs)):qkT H (.ref a)=some "list" := by unfold qkT;dsimp only;rw [h]
def qav.upd {H H':Hp} {a:Addr} {o:HO} (e:qav H H') (h:H a=none):qav H (L2.upd H' a o):=fun b u q=>by
 rw [qap (fun z=>by rw [z,h] at q;cases q)]
 exact e b u q
def qav.new {H:Hp} {a:Addr} {o:HO} (h:H a=none):qav H (L2.upd H a o):=(qav.refl H).upd h
section
variable {K:PySem.W.Frag} {H:Hp} {Q:VK} {i j:Int} {a:Addr} {b c:Bool} {z z':Str} {y:V} {g:Int->Int->V}
def qo7:qpp K (.int i) y H Q↔False:=⟨fun ⟨_,_,_,_,e,_⟩=>(nomatch e),False.elim⟩
def qqe:qqI K (.int i) y H Q↔False:=⟨fun ⟨_,_,_,_,e,_⟩=>(nomatch e),False.elim⟩
def qqw:qqI K (.bl b) y H Q↔False:=⟨fun ⟨_,_,_,_,e,_⟩=>(nomatch e),False.elim⟩
def qrc:qqI K (.str z) y H Q↔False:=⟨fun ⟨_,_,_,_,e,_⟩=>(nomatch e),False.elim⟩
def qro:qqI K .non y H Q↔False:=⟨fun ⟨_,_,_,_,e,_⟩=>(nomatch e),False.elim⟩
def qqN:qqL K (.int i) y H Q↔False:=⟨fun ⟨_,_,_,_,e,_⟩=>(nomatch e),False.elim⟩
def qqv:qqL K (.bl b) y H Q↔False:=⟨fun ⟨_,_,_,_,e,_⟩=>(nomatch e),False.elim⟩
def qqp:qqL K (.str z) y H Q↔False:=⟨fun ⟨_,_,_,_,e,_⟩=>(nomatch e),False.elim⟩
def qqo:qqL K .non y H Q↔False:=⟨fun ⟨_,_,_,_,e,_⟩=>(nomatch e),False.elim⟩
def qsz:rEq (.ref a) y H Q↔False:=⟨fun ⟨e,_⟩=>by cases y<;>exact absurd (show false=true from e) yeh,False.elim⟩
def qsm:rNe (.ref a) y H Q↔False:=⟨fun ⟨e,_⟩=>by cases y<;>exact absurd (show false=true from e) yeh,False.elim⟩
def qrW:rEq (.int i) (.int j) H Q↔Q (.bl (decide (i=j))) H:=by unfold rEq;simp [show qmp (.int i) (.int j)=true from rfl]
def qsb:rNe (.int i) (.int j) H Q↔Q (.bl (!decide (i=j))) H:=by unfold rNe;simp [show qmp (.int i) (.int j)=true from rfl]
def qsr:rEq (.bl b) (.bl c) H Q↔Q (.bl (decide (b=c))) H:=by unfold rEq;simp [show qmp (.bl b) (.bl c)=true from rfl]
def qrX:rNe (.bl b) (.bl c) H Q↔Q (.bl (!decide (b=c))) H:=by unfold rNe;simp [show qmp (.bl b) (.bl c)=true from rfl]
def qr0:rEq (.str z) (.str z') H Q↔Q (.bl (decide (z=z'))) H:=by unfold rEq;simp [show qmp (.str z) (.str z')=true from rfl]
def qsj:rNe (.str z) (.str z') H Q↔Q (.bl (!decide (z=z'))) H:=by unfold rNe;simp [show qmp (.str z) (.str z')=true from rfl]
def qss:rI0 g (.ref a) y H Q↔False:=⟨fun ⟨_,_,e,_⟩=>(nomatch e),False.elim⟩
def qsd:rI0 g (.int i) (.int j) H Q↔Q (g i j) H:=⟨fun ⟨_,_,e,e',q⟩=>by cases e;cases e';exact q,fun q=>⟨i,j,rfl,rfl,q⟩⟩
def qs9 {C:Int->Int->Prop}:rI C g (.int i) (.int j) H Q↔C i j/\Q (g i j) H:=⟨fun ⟨_,_,e,e',q⟩=>by cases e;cases e';exact q,fun q=>⟨i,j,rfl,rfl,q⟩⟩
def qi6 {xs:List V}:qlv (.ref a) [y] (upd H a (.lst xs)) Q↔xs.length<sizeLine/\Q .non (upd H a (.lst (xs++[y]))):=by
 constructor
 . rintro ⟨l,ys,v,e1,e2,e3,e4,q⟩
   cases e1;cases e2
   rw [qaj] at e3
   cases e3
   rw [qk6] at q
   exact ⟨e4,q⟩
 . rintro ⟨e,q⟩
   exact ⟨a,xs,y,rfl,rfl,qaj,e,by rw [qk6];exact q⟩
def qcD (h0:0<=j) (h1:j<=1000) (h2:-1000<=i) (h3:i<=1000):qsE i j:=⟨h0,by omega,by omega⟩
end
def qfw (J:It) (g:TG) (tb:TS) (D:qe7) (σ:St) (H:Hp):Prop:=∃W:Nat->Nat->St->Hp->Prop,(∃m,W 0 m σ H)/\∀i m σ H,W i m σ H ->
 (J.stop i H/\D.nx σ H)\/(J.go i H/\∃N:St->Hp->Prop,(∀σ' H',N σ' H'->∃m',m'<m/\W (i+1) m' σ' H')/\∀x H',J.yld i H x H'->g x σ H' fun σ2 H2=>tb { D with nx:=N,ct:=N,bk:=D.nx } σ2 H2)
def qdE (J:It) (nt:Nat) (caps:List Nat) (g:TG) (tt:TT) (te:TE) (σ:St) (H:Hp) (Q:VK):Prop:=∃W:Nat->Nat->List V->Hp->Prop,(∃m,W 0 m [] H)/\∀i m ys H2,W i m ys H2 ->
 (J.stop i H2/\ys.length<=sizeLine/\∀p,H2 p=none->Q (.ref p) (upd H2 p (.lst ys))) \/
 (J.go i H2/\ys.length<sizeLine/\∀x H3,J.yld i H2 x H3->g x (qbr nt caps σ) H3 fun σ4 H4=>tt σ4 H4 fun b H5 =>
   if b=true then te σ4 H5 fun y H6=>∃m',m'<m/\W (i+1) m' (ys++[y]) H6 else ∃m',m'<m/\W (i+1) m' ys H5)
section
variable {K:PySem.W.Frag} {g:TG} {tb:TS} {D:qe7} {σ:St} {H:Hp} {a:Addr} {xs:List V} {tl:TE} {ta:TA} {nt:Nat} {caps:List Nat} {tt:TT} {te:TE} {Q:VK}
def qp8:qnS (qoj K tl) g tb D σ H↔tl σ H fun x H1=>∃a,x = .ref a/\(∃xs,SqL K H1 a xs)/\qfw (Itl K a) g tb D σ H1:=Iff.rfl
def qo1:qnS (qpz ta) g tb D σ H↔ta σ H fun vs H1=>∃j:Int,vs=[.int j]/\-(2^62)<=j/\j<2^62/\qfw (Itr 0 j.toNat) g tb D σ H1:=Iff.rfl
def qpm:qnS (qrl ta) g tb D σ H↔ta σ H fun vs H1=>∃i j:Int,vs=[.int i,.int j]/\(-(2^62)<=i/\i<2^62/\-(2^62)<=j/\j<2^62)/\qfw (Itr i (j-i).toNat) g tb D σ H1:=Iff.rfl
def qoU:qfy nt caps (qoj K tl) g tt te σ H Q↔tl σ H fun x H1=>∃a,x = .ref a/\(∃xs,SqL K H1 a xs)/\qdE (Itl K a) nt caps g tt te σ H1 Q:=Iff.rfl
def qmf:qfy nt caps (qpz ta) g tt te σ H Q↔ta σ H fun vs H1=>∃j:Int,vs=[.int j]/\-(2^62)<=j/\j<2^62/\qdE (Itr 0 j.toNat) nt caps g tt te σ H1 Q:=Iff.rfl
def ql8:qfy nt caps (qrl ta) g tt te σ H Q↔ta σ H fun vs H1=>∃i j:Int,vs=[.int i,.int j]/\(-(2^62)<=i/\i<2^62/\-(2^62)<=j/\j<2^62)/\qdE (Itr i (j-i).toNat) nt caps g tt te σ H1 Q:=Iff.rfl
def qon (Pv:Nat->St->Hp->Prop) (h0:Pv 0 σ H) (hl:∀i σ H,i<=xs.length->Pv i σ H->SqL K H a xs)
 (hs:∀i x σ H,xs[i]?=some x->Pv i σ H->g x σ H fun σ2 H2=>tb { D with nx:=Pv (i+1),ct:=Pv (i+1),bk:=D.nx } σ2 H2) (hd:∀σ H,Pv xs.length σ H->D.nx σ H):qfw (Itl K a) g tb D σ H:=qm6 Pv h0 hl hs hd
def qsy {lo:Int} {n:Nat} (Pv:Nat->St->Hp->Prop) (h0:Pv 0 σ H)
 (hs:∀i σ H,i<n->Pv i σ H->g (.int (lo+i)) σ H fun σ2 H2=>tb { D with nx:=Pv (i+1),ct:=Pv (i+1),bk:=D.nx } σ2 H2) (hd:∀σ H,Pv n σ H->D.nx σ H):qfw (Itr lo n) g tb D σ H:=qkc Pv h0 hs hd
end
section
variable {t u t' u':TS} {te:TE} {g:TG} {c:TT} {D:qe7} {σ:St} {H:Hp} {wi:TI} {tb:TS}
def qmk:qiX (qnK te g) u D σ H↔te σ H fun x H1=>g x σ H1 (u D):=Iff.rfl
def qkE:qiX (qoh te) u D σ H↔te σ H fun _ H1=>u D σ H1:=Iff.rfl
def qmN:qiX (qnS wi g tb) u D σ H↔qnS wi g tb { D with nx:=u D } σ H:=Iff.rfl
def qjc:qiX (qnD c tb) u D σ H↔qnD c tb { D with nx:=u D } σ H:=Iff.rfl
def qmo:qiX (qpT c (qrS te) qjl) u D σ H↔c σ H fun b H1=>if b=true then te σ H1 D.rt else u D σ H1:=Iff.rfl
def qpH:qpT c t u D σ H↔c σ H fun b H1=>if b=true then t D σ H1 else u D σ H1:=Iff.rfl
def qa5 (I:St->Hp->Prop) (h2:∀σ' H',I σ' H'->u D σ' H') (h1:∀N:St->Hp->Prop,(∀σ' H',I σ' H'->N σ' H')->t { D with nx:=N } σ H):qiX t u D σ H:=h1 (u D) h2
end
def rdg {t:TS} {D:qe7} {σ σ':St} {H:Hp} (e:σ=σ') (h:t D σ' H):t D σ H:=e▸h
def qqt (K:PySem.W.Frag) (x y:V) (H:Hp) (b:Bool):Prop:=(qmp x y=true/\b=decide (x=y)) \/
 ∃a c xs ys,x = .ref a/\y = .ref c/\SqL K H a xs/\SqL K H c ys/\xs.all qbL=true/\ys.all qbL=true/\b=qgR xs ys
def qnW (K:PySem.W.Frag):R2:=fun x y H Q=>∃b,qqt K x y H b/\Q (.bl b) H
def qnB (K:PySem.W.Frag):R2:=fun x y H Q=>∃b,qqt K x y H b/\Q (.bl (!b)) H
def qtd (K:PySem.W.Frag) (x y:V) (H:Hp) (v:V):Prop:=(∃p xs i,x = .ref p/\y = .int i/\SqL K H p xs/\atI xs i=some v)\/∃p xs i,x = .ref p/\y = .int i/\SqT K H p xs/\atI xs i=some v
def qr5 (K:PySem.W.Frag):R2:=fun x y H Q=>∃v,qtd K x y H v/\Q v H
section
variable {K:PySem.W.Frag} {H:Hp} {Q:VK} {i j:Int} {a c:Addr} {b b':Bool} {z z':Str} {xs ys:List V}
def qnl:qqt K (.int i) (.int j) H b↔b=decide (i=j):=by
 constructor
 . rintro (⟨_,e⟩ | ⟨_,_,_,_,e,_⟩)
   . rw [e];simp
   . cases e
 . intro e;exact .inl ⟨rfl,by rw [e];simp⟩
def qnF {b'':Bool}:qqt K (.bl b') (.bl b) H b''↔b''=decide (b'=b):=by
 constructor
 . rintro (⟨_,e⟩ | ⟨_,_,_,_,e,_⟩)
   . rw [e];simp
   . cases e
 . intro e;exact .inl ⟨rfl,by rw [e];simp⟩
def qnY:qqt K (.str z) (.str z') H b↔b=decide (z=z'):=by
 constructor
 . rintro (⟨_,e⟩ | ⟨_,_,_,_,e,_⟩)
   . rw [e];simp
   . cases e
 . intro e;exact .inl ⟨rfl,by rw [e];simp⟩
def qqS:qnW K (.int i) (.int j) H Q↔Q (.bl (decide (i=j))) H:=by unfold qnW;simp [qnl]
def qqb:qnB K (.int i) (.int j) H Q↔Q (.bl (!decide (i=j))) H:=by unfold qnB;simp [qnl]
def qru:qnW K (.bl b) (.bl b') H Q↔Q (.bl (decide (b=b'))) H:=by unfold qnW;simp [qnF]
def qqY:qnB K (.bl b) (.bl b') H Q↔Q (.bl (!decide (b=b'))) H:=by unfold qnB;simp [qnF]
def qqf:qnW K (.str z) (.str z') H Q↔Q (.bl (decide (z=z'))) H:=by unfold qnW;simp [qnY]
def qq0:qnB K (.str z) (.str z') H Q↔Q (.bl (!decide (z=z'))) H:=by unfold qnB;simp [qnY]
def qnk (h1:SqL K H a xs) (h2:SqL K H c ys) (f1:xs.all qbL=true) (f2:ys.all qbL=true) (q:Q (.bl (qgR xs ys)) H):qnW K (.ref a) (.ref c) H Q:=⟨_,.inr ⟨a,c,xs,ys,rfl,rfl,h1,h2,f1,f2,rfl⟩,q⟩
def qsq (h1:SqL K H a xs) (h2:SqL K H c ys) (f1:xs.all qbL=true) (f2:ys.all qbL=true) (q:Q (.bl (!qgR xs ys)) H):qnB K (.ref a) (.ref c) H Q:=⟨_,.inr ⟨a,c,xs,ys,rfl,rfl,h1,h2,f1,f2,rfl⟩,q⟩
def qbC {v:V} (h:SqL K H a xs) (e:atI xs i=some v) (q:Q v H):qr5 K (.ref a) (.int i) H Q:=⟨v,.inl ⟨a,xs,i,rfl,rfl,h,e⟩,q⟩
def qpd {v:V} (h:SqT K H a xs) (e:atI xs i=some v) (q:Q v H):qr5 K (.ref a) (.int i) H Q:=⟨v,.inr ⟨a,xs,i,rfl,rfl,h,e⟩,q⟩
def qaD (h:X.K=K) (hu:X.A.units<cLine):OpR X (compareOp .Eq) (qnW K):=by
 subst h
 intro pins s σ H x y v u Q I rx ry q
 obtain ⟨b,hb,q⟩:=q
 rcases hb with ⟨hs,rfl⟩ | ⟨a,c,xs,ys,rfl,rfl,h1,h2,f1,f2,rfl⟩
 . exact qsA pins s σ H x y v u Q I rx ry ⟨hs,q⟩
 . exact qrj hu pins s σ H _ _ v u Q I rx ry ⟨a,c,xs,ys,rfl,rfl,h1,h2,f1,f2,q⟩
def qfk (h:X.K=K) (hu:X.A.units<cLine):OpR X (compareOp .NotEq) (qnB K):=by
 subst h
 intro pins s σ H x y v u Q I rx ry q
 obtain ⟨b,hb,q⟩:=q
 rcases hb with ⟨hs,rfl⟩ | ⟨a,c,xs,ys,rfl,rfl,h1,h2,f1,f2,rfl⟩
 . exact qsB pins s σ H x y v u Q I rx ry ⟨hs,q⟩
 . exact qp4 hu pins s σ H _ _ v u Q I rx ry ⟨a,c,xs,ys,rfl,rfl,h1,h2,f1,f2,q⟩
def qgh (h:X.K=K):OpR X (binaryOp .Add) (qpp K):=h▸qoa
def qlG (h:X.K=K):OpR X (compareOp .NotIn) (rIn K true):=h▸qg6
def qoH {r r':R2} (h:IxR X r) (hr:∀x y H Q,r' x y H Q->r x y H Q):IxR X r' :=
 fun value slice pins s σ H x y v u Q I rx ry q e=>h value slice pins s σ H x y v u Q I rx ry (hr _ _ _ _ q) e
def qc0 (h:X.K=K):IxR X (qr5 K):=by
 subst h
 refine qoH qqC fun x y H Q q=>?_
 obtain ⟨z,hz,q⟩:=q
 rcases hz with ⟨p,xs,i,e1,e2,e3,e4⟩ | ⟨p,xs,i,e1,e2,e3,e4⟩
 . exact .inl ⟨p,xs,i,z,e1,e2,e3,e4,q⟩
 . exact .inr (.inl ⟨p,xs,i,z,e1,e2,e3,e4,q⟩)
def qaL (h:X.K=K):qcl X (.builtin "len") (fun xs H Q=>∃p ys,xs=[.ref p]/\(SqL K H p ys\/SqT K H p ys)/\Q (.int ys.length) H):=h▸qhF
def qrC (h:X.K=K):SlR X (qsU K):=h▸qn2
end
def sp1 (R:V->Hp->VK->Prop):Sp:=fun vs H Q _=>∃a,vs=[a]/\R a H Q
def sp2 (R:V->V->Hp->VK->Prop):Sp:=fun vs H Q _=>∃a b,vs=[a,b]/\R a b H Q
def sp3 (R:V->V->V->Hp->VK->Prop):Sp:=fun vs H Q _=>∃a b c,vs=[a,b,c]/\R a b c H Q
def qlI (K:PySem.W.Frag):Sp:=sp1 fun x H Q=>∃(a:Addr) (ns:List Int),x = .ref a/\SqL K H a (ns.map V.int)/\ns.length<=63/\∀H',Q (.bl true) H'
end
end L2
namespace Tim
open PySem PyProof.Rows
section
variable {prog:Program} {w:World} {A:Around} {E:Value->Shared->Prop} {s:Shared}
def sort_any {a:Addr} {vs:List Value} {ns:List Int} {n:Nat} {P:Fin->Shared->Prop} (at0:s.heap.get? a=some (seqObj "list" vs.toArray n)) (hI:IntsAre vs ns) (hz:vs.length<=63)
   (h:∀(out:Array Value) (ms:List Int),IntsAre out.toList ms->ms.Perm ns->ms.Pairwise (·<=·)->P (.done (.ret .none)) { s with heap:=sortedHeap s.heap a vs out }) :
   wpAny (model prog w) A (Builtin.«list.sort» ⟨[.ref a],[]⟩) P E s:=by
 exact list_sort_tree at0 hI (by omega) h
def sorted_any {l:Addr} {vs:List Value} {ns:List Int} {Q:Value->Shared->Prop} (hl:s.heap.IsList l vs.toArray) (hI:IntsAre vs ns) (hz:vs.length<=63)
   (h:∀(out:Array Value) (ms:List Int),IntsAre out.toList ms->ms.Perm ns->ms.Pairwise (·<=·)->Q (.ref (s.heap.objs.size+1)) { s with heap:=sortedAll s.heap vs out }) :
   wpAny (model prog w) A (call (.builtin "sorted") [.ref l]) Q E s:=by
 have lim:vs.length<=sizeLine:=by rw [sizeLine_eq];omega
 refine Calls.call_function_entry kind_sorted plain_sorted entry_sorted (args_sorted1 _) (wpAny_bind (m:=checkCount "sorted" 1 1 _) (wpAny_pure (wpAny_bind (collect_list hl (wpAny_bind (wpAny_newList ?_ lim)) lim))))
 have e:((s.heap.push (seqObj "list" #[] 0)).update s.heap.objs.size (Obj.mapSeq (·++vs.toArray))).objs.size=s.heap.objs.size+1:=by rw [Heap.size_update];exact size_push' _ _
 have at0:(((s.heap.push (seqObj "list" #[] 0)).update s.heap.objs.size (Obj.mapSeq (·++vs.toArray))).push (seqObj "list" vs.toArray 0)).get? (s.heap.objs.size+1)=some (seqObj "list" vs.toArray 0):=e▸ydd _ rfl
 dsimp only
 rw [e]
 exact wpAny_bind (wpAny_holding (wpAny_call_entry slot_list_sort ⟨_,at0,rfl⟩ entry_list_sort (sort_any at0 hI hz fun out ms m1 m2 m3=>⟨_,rfl,wpAny_pure ⟨_,rfl,h out ms m1 m2 m3⟩⟩) (args_list_sort _)))
end
end Tim
namespace STb
open PySem PySem.SetTable PyProof.Rows
section
variable {prog:Program} {w:World} {A:Around} {E:Value->Shared->Prop} {s:Shared} {I S:Addr}
def qjf {ns:List Int} {Q:Value->Shared->Prop} (hh:A.handled=none) (r:RS prog w s.heap S ns) (hbig:ns.length<=63)
   (h:∀(l:Addr) (vs:List Value) (ms:List Int) (n:Nat) (s':Shared),IntsAre vs ms->ms.Perm ns->ms.Pairwise (·<=·)->s.heap.objs.size<=l->s'.heap.get? l=some { cls := .type "list",data := .seq vs.toArray n } ->
     (∀b o,s.heap.get? b=some o->s'.heap.get? b=some o)->s'.gens=s.gens->s'.os=s.os->Q (.ref l) s') :
   wpAny (model prog w) A (call (.builtin "sorted") [.ref S]) Q E s:=by
 refine Calls.call_function_entry kind_sorted plain_sorted entry_sorted (args_sorted1 _) ?_
 unfold Builtin.«sorted»
 refine wpAny_bind (m:=checkCount "sorted" 1 1 _) (wpAny_pure ?_)
 have hhs:∀{A':Around},A'.handled=A.handled->A'.handled=none:=fun e=>e.trans hh
 refine wpAny_bind (qiv (by first | exact hh | simp [hh]) r fun s1 vs ms hi hp kp szl eg eo=>?_)
 have hv:vs.length<=63:=by
   have e1:=hi.length
   have e2:=hp.length_eq
   omega
 have hz:vs.length<=sizeLine:=ycf hv (by decide)
 refine wpAny_bind (wpAny_newList ?_ hz)
 have g1:(s1.heap.push (seqObj "list" vs.toArray 0)).get? s1.heap.objs.size=some (seqObj "list" vs.toArray 0):=ydd _ rfl
 refine wpAny_bind (wpAny_holding (wpAny_call_entry slot_list_sort ⟨_,g1,rfl⟩ entry_list_sort (Tim.sort_any g1 hi hv fun out ns' a1 a2 a3=>⟨_,rfl,?_⟩) (args_list_sort _)))
 obtain ⟨e,he⟩:∃e,(sortedHeap (s1.heap.push (seqObj "list" vs.toArray 0)) s1.heap.objs.size vs out).get? s1.heap.objs.size=some (seqObj "list" out e):=sortedHeap_at g1
 have hle:s.heap.objs.size<=s1.heap.objs.size:=yce szl
 refine wpAny_pure ⟨_,rfl,h _ out.toList ns' e _ a1 (a2.trans hp) a3 hle (by rw [yfj];exact he) (fun b o q=>?_) eg eo⟩
 have q1:=kp b o q
 have hb:b<s1.heap.objs.size:=ydf q1
 show (sortedHeap (s1.heap.push (seqObj "list" vs.toArray 0)) s1.heap.objs.size vs out).get? b=some o
 rw [sortedHeap_old (ydh hb) (by rw [size_push'];exact ydi hb)]
 exact yde _ q1
end
end STb
namespace L2
open PySem PySem.Spec PyProof.Rows STb
def qlh (P:Program) (w:World) (a:Addr) (ns:List Int):HO := .ext fun h=>RS P w h a ns
def qc7 (ns:List Int):List Int:=ns.foldl qc9 []
def qfg (ns:List Int):qcg (fun i=>ns.getD i 0) ns.length=qc7 ns:=by
 unfold qcg qc7
 congr 1
 refine ydv (by simp) fun i h1 h2=>?_
 have:i<ns.length:=by simpa using h1
 simp [List.getD,this]
def qck {ns:List Int} {k:Int}:k∈qc7 ns↔k∈ns:=by
 have key:∀(l acc:List Int),k∈l.foldl qc9 acc↔k∈acc\/k∈l:=fun l=>by
   induction l with
   | nil=>intro acc;simp
   | cons x r ih =>
     intro acc
     rw [ybk,ih,qhh,ybd,or_assoc]
 rw [qc7,key]
 simp
def qcp (ns:List Int):(qc7 ns).Nodup:=by
 have key:∀(l acc:List Int),acc.Nodup->(l.foldl qc9 acc).Nodup:=fun l=>by
   induction l with
   | nil=>intro acc h;exact h
   | cons x r ih=>intro acc h;exact ih _ (qgq h)
 exact key ns [] List.nodup_nil
def qhk (ns:List Int):(qc7 ns).length<=ns.length:=by
 rw [<-qfg]
 exact qfi _ _
def qfh (val:Nat->Int):∀i,(qcg val i).Nodup
 | 0=>by simp [qcg]
 | i+1=>by
   rw [qcO]
   exact qgq (qfh val i)
def qhO:∀(n:Nat) (L:List Nat),L.Nodup->(∀x∈L,x<n)->L.length<=n
 | 0,L,_,h=>by
   cases L with
   | nil=>exact yax _
   | cons a r=>exact absurd (h a (by simp)) (by omega)
 | n+1,L,hn,h=>by
   by_cases hm:n∈L
   . have h1:=qhO n (L.erase n) (hn.erase n) fun x hx=>by
       obtain ⟨h2,h3⟩:=hn.mem_erase_iff.mp hx
       have:=h x h3
       omega
     rw [ybt hm] at h1
     omega
   . have:=qhO n L hn fun x hx=>by
       have:=h x hx
       have:x≠n:=fun z=>hm (z▸hx)
       omega
     omega
def qqx {L:List Int} (hn:L.Nodup) (h:∀z∈L,0<=z/\z<1000):L.length<=1000:=by
 have:=qhO 1000 (L.map Int.toNat) (by
   unfold List.Nodup
   rw [ybs]
   refine List.Pairwise.imp_of_mem (fun {a b} ha hb e=>?_) hn
   have:=h a ha
   have:=h b hb
   omega) fun x hx=>by
   obtain ⟨z,hz,rfl⟩:=ybq.mp hx
   have:=h z hz
   omega
 simpa using this
section
variable {X:Cx} {P:Program} {w:World} {K:PySem.W.Frag}
def qov (P:Program) (w:World) (K:PySem.W.Frag):List V->Hp->VK->Prop:=fun xs H Q=>∃(p:Addr) (ns:List Int),xs=[.ref p]/\SqL K H p (ns.map V.int)/\(ns.length<=1000\/∀z∈ns,0<=z/\z<1000)/\∀a,H a=none->Q (.ref a) (upd H a (qlh P w a (qc7 ns)))
def qhs (hP:X.prog=P) (hw:X.w=w) (hK:X.K=K) (hc:X.calm=true):qcl X (.type "set") (qov P w K):=by
 subst hP hw hK
 intro pins s σ H xs us Q I r h
 obtain ⟨p,ns,rfl,hq,hl,q⟩:=h
 obtain ⟨u,rfl,ru⟩:=qek r
 cases ru
 obtain ⟨its,rv,pl,hz⟩:=I.list hq
 have hi:IntsAre its ns:=qfY rv
 have hle:=hi.length
 have few:∀i,i<=its.toArray.size->(qcg (fun i=>ns.getD i 0) i).length+1<scanBound:=fun i hi'=>by
   show _<4096
   rw [yeu] at hi'
   rcases hl with hl | hl
   . have:=qfi (fun i=>ns.getD i 0) i
     omega
   . have h1:∀i,i<=ns.length->(qcg (fun i=>ns.getD i 0) i).Nodup:=fun i _=>qfh _ i
     have h2:=qqx (h1 i (by omega)) fun z hz=>by
       obtain ⟨j,hj,rfl⟩:=(qgV _ _ _).mp hz
       have hj2:j<ns.length:=by omega
       rw [yfg,ybu hj2]
       exact hl _ (ycy hj2)
     omega
 refine qkd (I.ok.hd hc) pl.isList (by simpa using hi) few fun h' tk rs kp=>?_
 have em:qcg (fun i=>ns.getD i 0) its.toArray.size=qc7 ns:=by
   have e:its.toArray.size=ns.length:=by simp [hle]
   rw [e,qfg]
 rw [em] at rs
 refine ⟨.ref _,_,I.laid (a:=s.heap.objs.size) (o:=qlh X.prog X.w s.heap.objs.size (qc7 ns)) (t':=tk) (fun b o e=>kp b o (ydf e) e) (yax _) ⟨rs,?_,fun h1 h2 r1 k=>r1.keep k⟩,rfl,q _ I.fresh⟩
 obtain ⟨es,ep,t,e,_⟩:=rs
 exact ⟨_,e⟩
def qqz (P:Program) (w:World) (K:PySem.W.Frag):List V->Hp->VK->Prop:=fun xs H Q=>∃(p:Addr) (ns:List Int),xs=[.ref p]/\SqL K H p (ns.map V.int)/\ns.length<=1000/\∀a,H a=none->Q (.ref a) (upd H a (qlh P w a (qc7 ns)))
def qjI (hP:X.prog=P) (hw:X.w=w) (hK:X.K=K) (hc:X.calm=true):qcl X (.type "set") (qqz P w K):=by
 intro pins s σ H xs us Q I r h
 obtain ⟨p,ns,e,hq,hl,q⟩:=h
 exact qhs hP hw hK hc pins s σ H xs us Q I r ⟨p,ns,e,hq,.inl hl,q⟩
def qrw (P:Program) (w:World):List V->Hp->VK->Prop:=fun xs H Q=>∃(a:Addr) (ns:List Int),xs=[.ref a]/\H a=some (qlh P w a ns)/\ns.length<=63/\∀(l:Addr) (ms:List Int),H l=none->ms.Perm ns->ms.Pairwise (·<=·)->Q (.ref l) (upd H l (.lst (ms.map V.int)))
def qjp (hP:X.prog=P) (hw:X.w=w) (hc:X.calm=true):qcl X (.builtin "sorted") (qrw P w):=by
 subst hP hw
 intro pins s σ H xs us Q I r h
 obtain ⟨a,ns,rfl,ha,hl,q⟩:=h
 obtain ⟨u,rfl,ru⟩:=qek r
 cases ru
 have rs:RS X.prog X.w s.heap a ns:=(I.hok a _ ha).1
 refine qjf (I.ok.hd hc) rs hl fun l vs ms n s' hi hp pw hle g kp eg eo=>?_
 obtain ⟨h',g',d',t',o'⟩:=s'
 have e1:o'=s.os:=eo
 have e2:g'=s.gens:=eg
 subst e1 e2
 have hn:H l=none:=I.hok.fresh hle
 have e3:=hi.length
 have e4:=hp.length_eq
 have hok:=I.hok.laid (h':=h') (a:=l) (o := .lst (ms.map V.int)) kp hle ⟨by rw [ybz];exact ycf (show ms.length<=63 by omega) (by decide),vs,n,qdq hi,g⟩
 refine ⟨.ref l,_,I.call' (s':=⟨h',s.gens,d',t',s.os⟩) (ch:=[]) rfl (Un.laid kp hle hn) hok I.bare (fun _ z=>nomatch z),rfl,q l ms hn hp pw⟩
def qqT (K:PySem.W.Frag):List V->Hp->VK->Prop:=fun xs H Q=>∃(p:Addr) (ns:List Int),xs=[.ref p]/\SqL K H p (ns.map V.int)/\ns.length<=63/\∀(l:Addr) (ms:List Int),H l=none->ms.Perm ns->ms.Pairwise (·<=·)->Q (.ref l) (upd H l (.lst (ms.map V.int)))
def qjB (hK:X.K=K):qcl X (.builtin "sorted") (qqT K):=by
 subst hK
 intro pins s σ H xs us Q I r h
 obtain ⟨p,ns,rfl,hq,hl,q⟩:=h
 obtain ⟨u,rfl,ru⟩:=qek r
 cases ru
 obtain ⟨its,rv,pl,hz⟩:=I.list hq
 have hi:IntsAre its ns:=qfY rv
 have hle:=hi.length
 refine Tim.sorted_any pl.isList hi (by omega) fun out ms a1 a2 a3=>?_
 obtain ⟨e,he⟩:=sortedAll_at s.heap its out
 have hn:H (s.heap.objs.size+1)=none:=I.hok.fresh (ydc _)
 have e4:=a2.length_eq
 refine ⟨.ref _,_,I.laid (a:=s.heap.objs.size+1) (o := .lst (ms.map V.int)) (t':=s.toks) (fun b o z=>sortedAll_old z) (ydc _) ⟨by rw [ybz];exact ycf (show ms.length<=63 by omega) (by decide),out.toList,e,qdq a1,by rw [yfj];exact he⟩,rfl,q _ ms hn a2 a3⟩
def qqP (P:Program) (w:World) (K:PySem.W.Frag):List V->Hp->VK->Prop:=fun xs H Q=>∃(a:Addr) (ns:List Int),xs=[.ref a]/\(SqL K H a (ns.map V.int)\/H a=some (qlh P w a ns))/\ns.length<=63 /\
 ∀(l:Addr) (ms:List Int),H l=none->ms.Perm ns->ms.Pairwise (·<=·)->Q (.ref l) (upd H l (.lst (ms.map V.int)))
def qdT (hP:X.prog=P) (hw:X.w=w) (hK:X.K=K) (hc:X.calm=true):qcl X (.builtin "sorted") (qqP P w K):=by
 intro pins s σ H xs us Q I r h
 obtain ⟨a,ns,rfl,h1 | h1,hl,q⟩:=h
 . exact qjB hK pins s σ H _ us Q I r ⟨a,ns,rfl,h1,hl,q⟩
 . exact qjp hP hw hc pins s σ H _ us Q I r ⟨a,ns,rfl,h1,hl,q⟩
end
end L2
namespace L2
open PySem PySem.Spec PyProof.Rows
def qd4 (a b:Nat):Builtin.bitAnd (a:Int) (b:Int)=((a&&&b:Nat):Int):=by
 rw [bitAnd_pp (by omega) (by omega)]
 rfl
def qj6 (a b:Nat):Builtin.bitOr (a:Int) (b:Int)=((a|||b:Nat):Int):=by
 rw [bitOr_and,qd4]
 have h:∀n (a b:Nat),a<2^n->a+b=(a|||b)+(a&&&b):=by
   intro n
   induction n with
   | zero =>
     intro a b ha
     have:a=0:=by omega
     subst this
     simp
   | succ n ih =>
     intro a b ha
     have q:=ih (a/2) (b/2) (by rw [Nat.pow_succ] at ha;omega)
     have e1:(a|||b)/2=a/2|||b/2:=Nat.or_div_two
     have e2:(a&&&b)/2=a/2&&&b/2:=Nat.and_div_two
     have m1:(a|||b)%2=if a%2=1\/b%2=1 then 1 else 0:=by
       have:=yam a b 0
       simp only [yak] at this
       rcases yal (a|||b) with z | z<;>rcases yal a with z1 | z1<;>rcases yal b with z2 | z2<;>simp [z,z1,z2] at this ⊢
     have m2:(a&&&b)%2=if a%2=1/\b%2=1 then 1 else 0:=by
       have:=yaa a b 0
       simp only [yak] at this
       rcases yal (a&&&b) with z | z<;>rcases yal a with z1 | z1<;>rcases yal b with z2 | z2<;>simp [z,z1,z2] at this ⊢
     rw [<-e1,<-e2] at q
     clear ih e1 e2 ha
     generalize (a|||b)=x at q m1 ⊢
     generalize (a&&&b)=y at q m2 ⊢
     split at m1<;>split at m2<;>omega
 have:=h (a+1) a b (yae (yck a) (yce yan))
 omega
def qk8 (ns:List Int):(ns.map V.int).all qbL=true:=by
 rw [ybf]
 intro x hx
 obtain ⟨z,_,rfl⟩:=ybq.mp hx
 rfl
def qgK (k:Nat):(2:Int)^k=((2^k:Nat):Int):=by
 rw [Int.natCast_pow]
 rfl
end L2
namespace L2
open PySem PySem.Spec PyProof.Rows
section
variable {X:Cx} {K:PySem.W.Frag}
def qtc (K:PySem.W.Frag) (te:TE):TE:=fun σ H Q=>te σ H fun x H1=>∃a xs,x = .ref a/\SqL K H1 a xs/\∀p,H1 p=none->Q (.ref p) (upd H1 p (.lst xs.reverse))
def Itv (K:PySem.W.Frag) (a:Addr) (xs:List V):It:=⟨fun i H=>SqL K H a xs/\i<xs.length,fun i H x H'=>H'=H/\xs.reverse[i]?=some x,fun i H=>SqL K H a xs/\xs.length<=i⟩
def qtg (K:PySem.W.Frag) (ta:TA):TI:=fun σ H R=>ta σ H fun vs H1=>∃a xs,vs=[.ref a]/\SqL K H1 a xs/\R (Itv K a xs) H1
end
section
variable {K:PySem.W.Frag} {g:TG} {tb:TS} {D:qe7} {σ:St} {H:Hp} {a:Addr} {xs:List V} {ta:TA}
def qoZ:qnS (qtg K ta) g tb D σ H↔ta σ H fun vs H1=>∃a xs,vs=[.ref a]/\SqL K H1 a xs/\qfw (Itv K a xs) g tb D σ H1:=Iff.rfl
end
end L2
namespace L2
open PySem PySem.Spec PyProof.Rows
abbrev nI (fs:List Nat):List Int:=fs.map fun (n:Nat)=>(n:Int)
abbrev nV (fs:List Nat):List V:=(nI fs).map V.int
def qb6 (fs:List Nat):(nV fs).length=fs.length:=by simp
def qnO {fs:List Nat} {i:Nat} {x:V} (h:(nV fs)[i]?=some x):∃a,fs[i]?=some a/\x = .int (a:Nat):=by
 rw [ydr,ydr] at h
 cases e:fs[i]? with
 | none=>rw [e] at h;cases h
 | some a=>rw [e] at h;cases h;exact ⟨a,rfl,rfl⟩
def qqr {fs:List Nat} {x:V} (h:x∈nV fs):∃a∈fs,x = .int (a:Nat):=by
 obtain ⟨z,hz,rfl⟩:=ybq.mp h
 obtain ⟨a,ha,rfl⟩:=ybq.mp hz
 exact ⟨a,ha,rfl⟩
def qlF (fs:List Nat) (a:Nat):nV fs++[V.int (a:Nat)]=nV (fs++[a]):=by simp
def qg2 (fs gs:List Nat):nV fs++nV gs=nV (fs++gs):=by simp
def qqk {a b:List Nat}:nI a=nI b↔a=b:=by
 constructor
 . intro h
   have:(nI a).map Int.toNat=(nI b).map Int.toNat:=by rw [h]
   rw [nI,nI,yds,yds,show (Int.toNat ∘ fun (n:Nat)=>(n:Int))=id from funext fun n=>yer n,yfk,yfk] at this
   exact this
 . rintro rfl;rfl
def qqU (a b:List Nat):qgR (nV a) (nV b)=decide (a=b):=by
 rw [qlD]
 exact decide_eq_decide.mpr qqk
def qnJ (fs:List Nat):(nV fs).all qbL=true:=qk8 _
def qli {ms:List Int} (h:∀z∈ms,0<=z):nI (ms.map Int.toNat)=ms:=by
 rw [nI,yds]
 conv=>rhs;rw [<-yfk ms]
 refine yfl fun z hz=>?_
 have:=h z hz
 show ((z.toNat:Nat):Int)=z
 omega
def sd (fs:List Nat):List Nat:=(List.range (fs.foldl max 0+1)).filter fun x=>decide (x∈fs)
def qqO (fs:List Nat):∀z,z<=fs.foldl max z/\∀x∈fs,x<=fs.foldl max z:=by
 induction fs with
 | nil=>intro z;exact ⟨yax _,fun x hx=>by cases hx⟩
 | cons a fs ih =>
   intro z
   obtain ⟨h1,h2⟩:=ih (max z a)
   rw [ybk]
   refine ⟨by omega,fun x hx=>?_⟩
   rcases ybd.mp hx with rfl | hx
   . omega
   . exact h2 x hx
def qcJ {fs:List Nat} {x:Nat}:x∈sd fs↔x∈fs:=by
 unfold sd
 rw [yay,ybh,decide_eq_true_eq]
 exact ⟨fun h=>h.2,fun h=>⟨by have:=(qqO fs 0).2 x h;omega,h⟩⟩
def qa6 (fs:List Nat):(sd fs).Pairwise (· < ·):=ybg.sublist yba
def qn5 {fs gs:List Nat} (h:gs.Pairwise (· < ·)) (e:∀x,x∈gs↔x∈fs):gs=sd fs:=Fam.rise_ext h (qa6 fs) fun x=>(e x).trans qcJ.symm
def qn4 {fs:List Nat} (h:fs.Pairwise (· < ·)):sd fs=fs:=(qn5 h fun _=>Iff.rfl).symm
def qdo {fs:List Nat} {ms:List Int} (h1:ms.Perm (qc7 (nI fs))) (h2:ms.Pairwise (·<=·)):ms=nI (sd fs):=by
 have nn:∀z∈ms,0<=z:=fun z hz=>by
   have:=qck.mp (h1.mem_iff.mp hz)
   obtain ⟨a,_,rfl⟩:=ybq.mp this
   omega
 have e:=qli nn
 rw [<-e]
 congr 1
 have nd:ms.Nodup:=h1.nodup_iff.mpr (qcp _)
 refine qn5 ?_ fun x=>?_
 . rw [ybs]
   have:=ycb.mp h2
   have nd':=ycb.mp nd
   rw [ycb]
   intro i j hi hj hij
   have a1:=this i j hi hj hij
   have a2:ms[i]≠ms[j]:=nd' i j hi hj hij
   have a3:=nn ms[i] (ycy _)
   omega
 . rw [ybq]
   constructor
   . rintro ⟨z,hz,rfl⟩
     have:=qck.mp (h1.mem_iff.mp hz)
     obtain ⟨a,ha,rfl⟩:=ybq.mp this
     simpa using ha
   . intro hx
     exact ⟨x,h1.mem_iff.mpr (qck.mpr (ybq.mpr ⟨x,hx,rfl⟩)),by simp⟩
def qll {fs:List Nat} {ms:List Int} (hn:fs.Nodup) (h1:ms.Perm (nI fs)) (h2:ms.Pairwise (·<=·)):ms=nI (sd fs):=by
 refine qdo (h1.trans ?_) h2
 have:(nI fs).Nodup:=by
   rw [nI,List.Nodup,ybs]
   exact hn.imp fun h e=>h (by omega)
 refine (yfm this (qcp _)).mpr fun z=>?_
 rw [qck]
end L2
namespace L2
open PySem PySem.Spec PyProof.Rows
section
variable {K:PySem.W.Frag} {g:TG} {σ:St} {H:Hp} {a:Addr} {xs:List V} {nt:Nat} {caps:List Nat} {tt:TT} {te:TE} {Q:VK}
def qkt (Pv:Nat->List V->Hp->Prop) (h0:Pv 0 [] H) (hz:xs.length<=sizeLine) (hl:∀i ys H1,i<=xs.length->Pv i ys H1->SqL K H1 a xs/\ys.length<=i)
   (hs:∀i x ys H1,xs[i]?=some x->Pv i ys H1->∀(R:VK) (R':Hp->Prop),(∀y H2,Pv (i+1) (ys++[y]) H2->R y H2)->(∀H2,Pv (i+1) ys H2->R' H2) ->
     g x (qbr nt caps σ) H1 fun σ4 H4=>tt σ4 H4 fun b H5=>if b=true then te σ4 H5 R else R' H5)
   (hd:∀ys H1,Pv xs.length ys H1->∀p,H1 p=none->Q (.ref p) (upd H1 p (.lst ys))):qdE (Itl K a) nt caps g tt te σ H Q:=by
 refine ⟨fun i m ys H1=>m=xs.length-i/\i<=xs.length/\Pv i ys H1,⟨_,rfl,ych _,h0⟩,?_⟩
 rintro i m ys H2 ⟨rfl,hi,p⟩
 obtain ⟨q,hy⟩:=hl i ys H2 hi p
 by_cases hlt:i<xs.length
 . refine .inr ⟨⟨xs,xs[i],q,by simp [hlt]⟩,by omega,fun x H3 y=>?_⟩
   obtain ⟨e,y⟩:=y
   subst e
   exact hs i x ys _ (y xs q) p _ _ (fun v H4 w=>⟨xs.length-(i+1),by omega,rfl,hlt,w⟩) fun H4 w=>⟨xs.length-(i+1),by omega,rfl,hlt,w⟩
 . obtain rfl:i=xs.length:=by omega
   exact .inl ⟨⟨xs,q,yax _⟩,by omega,hd ys H2 p⟩
def qrq {lo:Int} {n:Nat} (Pv:Nat->List V->Hp->Prop) (h0:Pv 0 [] H) (hz:n<=sizeLine) (hl:∀i ys H1,i<=n->Pv i ys H1->ys.length<=i)
   (hs:∀i ys H1,i<n->Pv i ys H1->∀(R:VK) (R':Hp->Prop),(∀y H2,Pv (i+1) (ys++[y]) H2->R y H2)->(∀H2,Pv (i+1) ys H2->R' H2) ->
     g (.int (lo+i)) (qbr nt caps σ) H1 fun σ4 H4=>tt σ4 H4 fun b H5=>if b=true then te σ4 H5 R else R' H5)
   (hd:∀ys H1,Pv n ys H1->∀p,H1 p=none->Q (.ref p) (upd H1 p (.lst ys))):qdE (Itr lo n) nt caps g tt te σ H Q:=by
 refine ⟨fun i m ys H1=>m=n-i/\i<=n/\Pv i ys H1,⟨_,rfl,ych _,h0⟩,?_⟩
 rintro i m ys H2 ⟨rfl,hi,p⟩
 have hy:=hl i ys H2 hi p
 by_cases hlt:i<n
 . refine .inr ⟨hlt,by omega,fun x H3 y=>?_⟩
   obtain ⟨e,y⟩:=y
   subst e y
   exact hs i ys _ hlt p _ _ (fun v H4 w=>⟨n-(i+1),by omega,rfl,hlt,w⟩) fun H4 w=>⟨n-(i+1),by omega,rfl,hlt,w⟩
 . obtain rfl:i=n:=by omega
   exact .inl ⟨yax _,by omega,hd ys H2 p⟩
def qec {n:Nat} (c:Nat->Bool) (f:Nat->V) (hz:n<=100000)
   (hs:∀k,k<n->∀H1,qav H H1->∀(R:VK) (R':Hp->Prop),(c k=true->∀H2,qav H1 H2->R (f k) H2)->(c k=false->∀H2,qav H1 H2->R' H2) ->
     g (.int (k:Nat)) (qbr nt caps σ) H1 fun σ4 H4=>tt σ4 H4 fun b H5=>if b=true then te σ4 H5 R else R' H5)
   (hd:∀H1 p,qav H H1->H1 p=none->Q (.ref p) (upd H1 p (.lst (((List.range n).filter c).map f)))):qdE (Itr 0 n) nt caps g tt te σ H Q:=by
 refine qrq (fun i ys H1=>qav H H1/\ys=((List.range i).filter c).map f) ⟨qav.refl _,rfl⟩ (ycf hz (by decide)) (fun i ys H1 _ h=>?_) (fun i ys H1 hi h R R' r1 r2=>?_) fun ys H1 h p hp=>?_
 . rw [h.2,ybz]
   exact ycf (yfn _ _) (by simp)
 . obtain ⟨sm,rfl⟩:=h
   rw [Int.zero_add]
   refine hs i hi H1 sm R R' (fun hc H2 s2=>r1 _ _ ⟨sm.trans s2,?_⟩) fun hc H2 s2=>r2 _ ⟨sm.trans s2,?_⟩
   . rw [ydb,yau,ycz];simp [hc]
   . rw [ydb,yau,ycz];simp [hc]
 . rw [h.2]
   exact hd H1 p h.1 hp
def qkH {fs:List V} (c:V->Bool) (f:V->V) (hq:SqL K H a fs) (hz:fs.length<=100000)
   (hs:∀x∈fs,∀H1,qav H H1->∀(R:VK) (R':Hp->Prop),(c x=true->∀H2,qav H1 H2->R (f x) H2)->(c x=false->∀H2,qav H1 H2->R' H2) ->
     g x (qbr nt caps σ) H1 fun σ4 H4=>tt σ4 H4 fun b H5=>if b=true then te σ4 H5 R else R' H5)
   (hd:∀H1 p,qav H H1->H1 p=none->Q (.ref p) (upd H1 p (.lst ((fs.filter c).map f)))):qdE (Itl K a) nt caps g tt te σ H Q:=by
 refine qkt (xs:=fs) (fun i ys H1=>qav H H1/\ys=((fs.take i).filter c).map f) ⟨qav.refl _,rfl⟩ (ycf hz (by decide)) (fun i ys H1 hi h=>⟨h.1.seq hq,?_⟩) (fun i x ys H1 hx h R R' r1 r2=>?_) fun ys H1 h p hp=>?_
 . rw [h.2,ybz]
   exact ycf (yfn _ _) (by rw [yem];omega)
 . obtain ⟨sm,rfl⟩:=h
   have ex:=take_succ_filter c fs i x hx
   refine hs x (ybv hx) H1 sm R R' (fun hc H2 s2=>r1 _ _ ⟨sm.trans s2,?_⟩) fun hc H2 s2=>r2 _ ⟨sm.trans s2,?_⟩
   . rw [ex,hc,if_pos rfl,ycz];rfl
   . rw [ex,hc,if_neg yeh,ydn]
 . rw [h.2,yco]
   exact hd H1 p h.1 hp
def qg9 {fs:List Nat} (c:Nat->Bool) (f:Nat->V) (hq:SqL K H a (nV fs)) (hz:fs.length<=100000)
   (hs:∀x∈fs,∀H1,qav H H1->∀(R:VK) (R':Hp->Prop),(c x=true->∀H2,qav H1 H2->R (f x) H2)->(c x=false->∀H2,qav H1 H2->R' H2) ->
     g (.int (x:Nat)) (qbr nt caps σ) H1 fun σ4 H4=>tt σ4 H4 fun b H5=>if b=true then te σ4 H5 R else R' H5)
   (hd:∀H1 p,qav H H1->H1 p=none->Q (.ref p) (upd H1 p (.lst ((fs.filter c).map f)))):qdE (Itl K a) nt caps g tt te σ H Q:=by
 refine qkH (fs:=nV fs) (fun v=>match v with | .int i=>c i.toNat | _=>false) (fun v=>match v with | .int i=>f i.toNat | _ => .non) hq (by rw [qb6];exact hz) (fun x hx H1 sm R R' r1 r2=>?_) fun H1 p sm hp=>?_
 . obtain ⟨b,hb,rfl⟩:=qqr hx
   refine hs b hb H1 sm R R' (fun hc=>?_) fun hc=>?_
   . have:=r1 (by simpa using hc)
     simpa using this
   . exact r2 (by simpa using hc)
 . have e:((nV fs).filter (fun v=>match v with | .int i=>c i.toNat | _=>false)).map (fun v=>match v with | .int i=>f i.toNat | _ => .non)=(fs.filter c).map f:=by
     rw [nV,nI,yds,List.filter_map,yds]
     rfl
   rw [e]
   exact hd H1 p sm hp
end
def qaE {n:Nat} (h:n<=100000):n<=sizeLine:=ycf h (by decide)
def qgg {n:Nat} (h:n<=100000):n<sizeLine:=ybi h (by decide)
def qnA {b:Bool} {A B:Prop} (h1:b=true->A) (h2:b=false->B):if b=true then A else B:=by
 cases b
 . exact qgJ (h2 rfl)
 . exact qjF (h1 rfl)
def qkI {P A B:Prop} [Decidable P] {b:Bool} (e:P↔b=true) (h1:b=true->A) (h2:b=false->B):if P then A else B:=by
 by_cases c:P
 . rw [if_pos c];exact h1 (e.mp c)
 . rw [if_neg c];exact h2 (by cases b with | false=>rfl | true=>exact absurd (e.mpr rfl) c)
def qax {H H':Hp} {p:Addr} {o:HO} (e:upd H p o=H'):H' p=some o:=e▸qaj
def qau {H H':Hp} {p:Addr} {o:HO} (e:upd H p o=H') (h:H p=none):qav H H':=e▸qav.new h
def qhG {H:Hp} {p q:Addr} {o:HO} (h:H p=none) (hq:H q=some o):q≠p:=fun z=>by rw [z,h] at hq;cases hq
def qaM {H H':Hp} {p:Addr} (s:qav H H') (h:H' p=none):H p=none:=by
 cases e:H p with
 | none=>rfl
 | some o=>rw [s _ _ e] at h;cases h
def qiI {H:Hp} {p:Addr} {o:HO} (h:H p=some o):H=upd H p o:=funext fun x=>by
 by_cases c:x=p
 . rw [c,qaj,h]
 . rw [qap c]
def qpl (fs:List Nat) {n:Nat} (h:fs.length<=n):(sd fs).length<=n:=by
 have nd:(nI (sd fs)).Nodup:=by
   rw [nI,List.Nodup,ybs]
   exact (qa6 fs).imp fun h e=>by omega
 have p:(nI (sd fs)).Perm (qc7 (nI fs)):=(yfm nd (qcp _)).mpr fun z=>by
   rw [qck,ybq,ybq]
   exact ⟨fun ⟨x,hx,e⟩=>⟨x,qcJ.mp hx,e⟩,fun ⟨x,hx,e⟩=>⟨x,qcJ.mpr hx,e⟩⟩
 have e1:=p.length_eq
 have e2:=qhk (nI fs)
 simp at e1 e2
 omega
def qmS (n:Nat) (c:Nat->Bool):((List.range n).filter c).map (fun k=>V.int (k:Nat))=nV ((List.range n).filter c):=by simp
def qp3 (fs:List Nat):fs.map (fun k=>V.int (k:Nat))=nV fs:=by simp
end L2
namespace L2
open PySem PySem.Spec PyProof.Rows
def qml (xs:List V) (n:Nat):qjG xs none (some (n:Int))=xs.take n:=by
 unfold qjG
 rw [HT.sIx_nat]
 show (xs.drop 0).take (min n xs.length-0)=_
 rw [List.drop_zero,Nat.sub_zero,List.take_eq_take_iff]
 omega
def qiU (xs:List V) (n:Nat):qjG xs (some (n:Int)) none=xs.drop n:=by
 unfold qjG
 rw [HT.sIx_nat]
 show (xs.drop (min n xs.length)).take (xs.length-min n xs.length)=_
 rcases yag n xs.length with z | z
 . rw [Nat.min_eq_left (yce z),<-ycm,yco]
 . rw [Nat.min_eq_right z,yfo z,yfo (yax _)]
   simp
end L2
namespace L2
open PySem PySem.Spec PyProof.Rows
section
variable {K:PySem.W.Frag} {g:TG} {tb:TS} {D:qe7} {σ:St} {H:Hp} {a:Addr} {xs:List V} {c:TT}
def qiD {n:Nat} (Pv:Nat->St->Hp->Prop) (h0:Pv 0 σ H)
   (hs:∀i σ H,i<n->Pv i σ H->∀N:St->Hp->Prop,(∀σ' H',Pv (i+1) σ' H'->N σ' H')->g (.int (i:Nat)) σ H fun σ2 H2=>tb { D with nx:=N,ct:=N,bk:=D.nx } σ2 H2) (hd:∀σ H,Pv n σ H->D.nx σ H):qfw (Itr 0 n) g tb D σ H :=
 qsy Pv h0 (fun i σ H hi p=>by rw [Int.zero_add];exact hs i σ H hi p _ fun _ _ q=>q) hd
def qi3 (Pv:Nat->St->Hp->Prop) (h0:Pv 0 σ H) (hl:∀i σ H,i<=xs.length->Pv i σ H->SqL K H a xs)
   (hs:∀i x σ H,xs[i]?=some x->Pv i σ H->∀N:St->Hp->Prop,(∀σ' H',Pv (i+1) σ' H'->N σ' H')->g x σ H fun σ2 H2=>tb { D with nx:=N,ct:=N,bk:=D.nx } σ2 H2) (hd:∀σ H,Pv xs.length σ H->D.nx σ H):qfw (Itl K a) g tb D σ H :=
 qon Pv h0 hl (fun i x σ H hx p=>hs i x σ H hx p _ fun _ _ q=>q) hd
def qiM {fs:List Nat} (Pv:Nat->St->Hp->Prop) (h0:Pv 0 σ H) (hl:∀i σ H,i<=fs.length->Pv i σ H->SqL K H a (nV fs))
   (hs:∀i b σ H,fs[i]?=some b->Pv i σ H->∀N:St->Hp->Prop,(∀σ' H',Pv (i+1) σ' H'->N σ' H')->g (.int (b:Nat)) σ H fun σ2 H2=>tb { D with nx:=N,ct:=N,bk:=D.nx } σ2 H2) (hd:∀σ H,Pv fs.length σ H->D.nx σ H):qfw (Itl K a) g tb D σ H :=
 qon (xs:=nV fs) Pv h0 (fun i σ H hi p=>hl i σ H (by rwa [qb6] at hi) p) (fun i x σ H hx p=>by
   obtain ⟨b,hb,rfl⟩:=qnO hx
   exact hs i b σ H hb p _ fun _ _ q=>q) fun σ H p=>hd σ H (by rwa [qb6] at p)
end
end L2
namespace L2
open PySem PySem.Spec PyProof.Rows
def qjT (a k:Nat):Builtin.bitAnd ((a:Int)/2^((k:Nat):Int).toNat) 1=if a.testBit k=true then 1 else 0:=by
 have e:(a:Int)/2^((k:Nat):Int).toNat=((a/2^k:Nat):Int):=by rw [yer,qgK];rfl
 rw [e,show (1:Int)=((1:Nat):Int) from rfl,qd4,Nat.and_one_is_mod,Nat.testBit_eq_decide_div_mod_eq]
 by_cases c:a/2^k%2=1
 . simp [c]
 . have:a/2^k%2=0:=by omega
   simp [this]
def qoS (a k:Nat):decide (Builtin.bitAnd ((a:Int)/2^((k:Nat):Int).toNat) 1=1)=a.testBit k:=by
 rw [qjT]
 cases a.testBit k<;>rfl
def qpK (a k:Nat):decide (Builtin.bitAnd ((a:Int)/2^((k:Nat):Int).toNat) 1=0) = !a.testBit k:=by
 rw [qjT]
 cases a.testBit k<;>rfl
def qnZ {a k:Nat}:Builtin.bitAnd ((a:Int)/2^((k:Nat):Int).toNat) 1=1↔a.testBit k=true:=by
 rw [<-qoS,decide_eq_true_eq]
def qdc (k:Nat):(1:Int)*2^((k:Nat):Int).toNat=((2^k:Nat):Int):=by rw [Int.one_mul,yer,qgK]
end L2
namespace L2
open PySem PySem.Spec PyProof.Rows
inductive Deq (K:PySem.W.Frag) (H:Hp):Nat->V->V->Bool->Prop where
 | flat {n:Nat} {x y:V}:qbL x=true->qbL y=true->Deq K H n x y (eqV x y)
 | lst {n:Nat} {a b:Addr} {xs ys:List V} {e:Nat->Bool}:a≠b->SqL K H a xs->SqL K H b ys->xs.length=ys.length->(∀(j:Nat) (x y:V),xs[j]?=some x->ys[j]?=some y->Deq K H n x y (e j))->Deq K H (n+1) (.ref a) (.ref b) ((List.range xs.length).all e)
 | lstN {n:Nat} {a b:Addr} {xs ys:List V}:a≠b->SqL K H a xs->SqL K H b ys->xs.length≠ys.length->Deq K H (n+1) (.ref a) (.ref b) false
 | tup {n:Nat} {a b:Addr} {xs ys:List V} {e:Nat->Bool}:a≠b->SqT K H a xs->SqT K H b ys->(∀(j:Nat) (x y:V),xs[j]?=some x->ys[j]?=some y->Deq K H n x y (e j))->Deq K H (n+1) (.ref a) (.ref b) ((List.range (min xs.length ys.length)).all e&&xs.length==ys.length)
section
variable {X:Cx} {pins:List (Addr×Obj)} {σ:St} {H:Hp} {s:Shared} {K:PySem.W.Frag}
end
end L2
namespace L2
open PySem PySem.Spec PyProof.Rows
abbrev bV (t:List Bool):List V:=t.map V.bl
def tab (n:Nat) (f:Nat->Bool):List Bool:=(List.range n).map f
def qrr (t:List Bool):(bV t).length=t.length:=by simp
def qoQ {n k:Nat} {f:Nat->Bool} (h:k<n):(tab n f)[k]?=some (f k):=by
 unfold tab
 rw [ydr,List.getElem?_range h]
 rfl
def qsg {t:List Bool} {i:Nat} {b:Bool} (h:t[i]?=some b):atI (bV t) (i:Int)=some (.bl b):=by
 have hl:=(ycd.mp h).1
 unfold atI ixN
 rw [if_pos (by omega),if_pos (by rw [qrr];omega)]
 show (bV t)[(i:Int).toNat]?=_
 rw [yer,ydr,h]
 rfl
def qkV {n k:Nat} {f:Nat->Bool} (h:k<n):atI (bV (tab n f)) (k:Int)=some (.bl (f k)):=qsg (qoQ h)
def qoY {n:Nat} {f:Nat->Bool}:((List.range n).filter fun _=>true).map (fun k=>V.bl (f k))=bV (tab n f):=by
 rw [yfp.mpr fun _ _=>rfl,tab,bV,yds]
 rfl
def qmd {a k:Nat}:Builtin.bitAnd ((a:Int)/2^((k:Nat):Int).toNat) 1=0↔(!a.testBit k)=true:=by
 have:=qpK a k
 rw [<-this,decide_eq_true_eq]
end L2
namespace Fam
end Fam
namespace Fam
def Anti (L:List Nat):Prop:=∀a∈L,∀b∈L,sub b a->b=a
def qg7 {L:List Nat} {k:Nat} (h:L.Pairwise (· < ·)):(outs L k).Pairwise (· < ·):=h.sublist yba
end Fam
namespace Fam
def qr9 (f:Nat->Bool) (x y s:Nat):Bool:=!s.testBit x&&!s.testBit y&&(f (s|||2^x)&&!f (s|||2^y))
def qto (m:Nat) (f:Nat->Bool) (x y:Nat):Option Nat:=(List.range (2^m)).find? (qr9 f x y)
def trn (m:Nat) (f:Nat->Bool) (k:Nat):Nat:=((List.range (2^m)).filter fun s=>!f s&&f (s|||2^k)).length
def trns (m:Nat) (f:Nat->Bool):List Nat:=(List.range m).map (trn m f)
end Fam
namespace Fam
structure Ord (m:Nat) (o:List Nat):Prop where
 len:o.length=m
 lt:∀x∈o,x<m
 nd:o.Nodup
def at' (o:List Nat) (k:Nat):Nat:=o.getD k 0
def ex (o:List Nat) (a:Nat):Nat:=ofN ((nms 8 a).map (at' o))
section
variable {m:Nat} {o:List Nat}
def qpY (o:List Nat):List Nat:=(List.range o.length).map fun j=>o.idxOf j
end
end Fam
namespace L2
open PySem PySem.Spec PyProof.Rows
section
variable {X:Cx} {es:List Expr} {t:TA} {te:TE}
def qas {v j p} (ha:PE X (.Constant v j p) te) (hr:PA X es t):PA X (.Constant v j p::es) (qdQ te t):=qaa ha hr
def qaC {x p} (ha:PE X (.Name x p) te) (hr:PA X es t):PA X (.Name x p::es) (qdQ te t):=qaa ha hr
def qbJ {xs p} (ha:PE X (.List xs p) te) (hr:PA X es t):PA X (.List xs p::es) (qdQ te t):=qaa ha hr
def qev {f as ks p} (ha:PE X (.Call f as ks p) te) (hr:PA X es t):PA X (.Call f as ks p::es) (qdQ te t):=qaa ha hr
inductive CI:List Expr->List Int->Prop
 | nil:CI [] []
 | cons {i:Int} {j:Nat} {p:Pos} {es:List Expr} {ns:List Int} (h:CI es ns):CI (.Constant (.int i) j p::es) (i::ns)
def qsi (ns:List Int):TA:=fun _ H Q=>Q (ns.map V.int) H
end
end L2
namespace L2
open PySem PySem.Spec PyProof.Rows
section
variable {X:Cx} {K:PySem.W.Frag}
def qnR {T:String} {name:Str} {id:String} {r:V->List V->Hp->VK->Prop} {o e:Expr} {es:List Expr} {to:TE} {t:TA} {apos cpos:Pos} (hK:X.K=K) (pa:PlainAttrs T) (slot:Slot T name id) (hty:typeOf (.builtin id)=pure (.type "method_descriptor")) (hm:MtR X id r) (ho:PE X o to) (ha:PA X (e::es) t) (h1:attributeBase o name X.env (eval o X.env)=eval o X.env:=by rfl) (h2:((backTo cpos (starEach (e::es) X.env)).all (fun x=>!x.1)&&(backToKw cpos (keywordEach [] X.env)).all (fun x=>x.1.isSome)&&decide ((e::es).length+([]:List Keyword).length+(if ([]:List Keyword).isEmpty then 0 else 1)<30))=true:=by rfl) (h3:(apos.endLine==cpos.line)=true:=by rfl) (h4:starEach (e::es) X.env=(false,eval e X.env)::starEach es X.env:=by rfl) (h5:(backTo cpos (starEach es X.env)).any (·.1)=false:=by rfl):PE X (.Call (.Attribute o name apos) (e::es) [] cpos) (tBM K T r to t):=by
 subst hK
 exact qdU pa slot hty hm ho ha h1 h2 h3 h4 h5
end
end L2
namespace L2
open PySem PySem.Spec PyProof.Rows
inductive DI:List Expr->TA->Prop
 | nil:DI [] qrZ
 | c {v:Const} {j:Nat} {p:Pos} {es:List Expr} {te:TE} {t:TA} (h:∀X,PE X (.Constant v j p) te) (r:DI es t):DI (.Constant v j p::es) (qdQ te t)
 | t {xs:List Expr} {b p} {es:List Expr} {te:TE} {t:TA} (h:∀X,PE X (.Tuple xs b p) te) (r:DI es t):DI (.Tuple xs b p::es) (qdQ te t)
 | d {ks vs p} {es:List Expr} {te:TE} {t:TA} (h:∀X,PE X (.Dict ks vs p) te) (r:DI es t):DI (.Dict ks vs p::es) (qdQ te t)
 | l {xs:List Expr} {p} {es:List Expr} {te:TE} {t:TA} (h:∀X,PE X (.List xs p) te) (r:DI es t):DI (.List xs p::es) (qdQ te t)
end L2
namespace L2
open PySem PySem.Spec PyProof.Rows STb
section
variable {prog:Program} {w:World} {A:Around} {E:Value->Shared->Prop} {s:Shared}
end
section
variable {X:Cx}
end
end L2
namespace L2
open PySem PySem.Spec PyProof.Rows
section
variable {X:Cx} {K:PySem.W.Frag} {g:TG} {σ:St} {H:Hp} {a:Addr} {xs:List V} {nt:Nat} {caps:List Nat} {tt:TT} {te tl:TE} {Q:VK}
def qpP:qfy nt caps (qtb K tl) g tt te σ H Q↔tl σ H fun x H1=>∃a,x = .ref a/\(∃xs,SqT K H1 a xs)/\qdE (Itt K a) nt caps g tt te σ H1 Q:=Iff.rfl
end
end L2
namespace L2
open PySem PySem.Spec PyProof.Rows
section
variable {X:Cx} {pins:List (Addr×Obj)} {σ:St} {H:Hp} {s:Shared} {h':Heap} {K:PySem.W.Frag}
def Ite (K:PySem.W.Frag) (a:Addr):It :=
 ⟨fun i H=>∃xs x,SqL K H a xs/\xs[i]?=some x,fun i H v H'=>∃t,v = .ref t/\H t=none/\∀xs x,SqL K H a xs->xs[i]?=some x->H'=upd H t (.tup [.int (i:Nat),x]),fun i H=>∃xs,SqL K H a xs/\xs.length<=i⟩
def qsf (K:PySem.W.Frag) (ta:TA):TI:=fun σ H R=>ta σ H fun vs H1=>∃a xs,vs=[.ref a]/\SqL K H1 a xs/\R (Ite K a) H1
def qqg {K:PySem.W.Frag}:qh8 2 (qr6 K 2 (qm1 (qel 0) (qm1 (qel 1) qrQ))):=by
 intro v cs H Q h
 obtain ⟨a,xs,e,hq,hl,v0,r0,e0,v1,r1,e1,e2,q⟩:=h
 refine ⟨a,xs,e,hq,hl,v0,r0,e0,v1,r1,e1,e2,fun j u z=>?_,q⟩
 match j with
 | 0=>simp at z
 | 1=>simp at z
 | j+2=>simpa using z
end
section
variable {K:PySem.W.Frag} {g:TG} {σ:St} {H:Hp} {a:Addr} {nt:Nat} {caps:List Nat} {tt:TT} {te:TE} {Q:VK} {ta:TA}
def qoO:qfy nt caps (qsf K ta) g tt te σ H Q↔ta σ H fun vs H1=>∃a xs,vs=[.ref a]/\SqL K H1 a xs/\qdE (Ite K a) nt caps g tt te σ H1 Q:=Iff.rfl
end
section
variable {g:TG} {tb:TS} {D:qe7} {σ:St} {H:Hp}
end
end L2
namespace L2
open PySem PySem.Spec PyProof.Rows
end L2
namespace L2
open PySem PySem.Spec PyProof.Rows
structure qrY (X:Cx) (N:List Str) (nt:Nat) (caps:List Nat) (cx:Str) (scope:Scope):Prop where
 one:∀n acc,cellsFrom n scope.names acc=(cx,n)::acc
 push:∀h:Heap,pushCells h scope.names=h.push { cls := .type "cell",data := .cell none }
 cell:∀y∈scope.names,y.2 = .cell->y.1=cx
 notf:(cx,NameKind.free)∉scope.names
 kind:scope.kind = .function
 names:∀x∈scope.names,x.2 = .local->scope.names.lookup x.1=some .local
 free:∀n,(n,NameKind.free)∈scope.names->X.env.kindOf n=some .cell\/X.env.kindOf n=some .free
 cap:∀(j i:Nat),caps[j]?=some i->∃x,X.N[i]?=some x/\N[nt+j]?=some x/\(x,NameKind.free)∈scope.names/\scope.names.lookup x=some .free
 len:N.length=nt+caps.length
section
variable {X:Cx} {tg iter elt:Expr} {ifs:List Expr} {scope:Scope} {pos:Pos} {N:List Str} {nt:Nat} {caps:List Nat} {wi:TI} {g:TG} {tt:TT} {te:TE} {cl:List (Str×Addr)} {cx:Str}
end
end L2
namespace Fam
section
variable {m:Nat} {o:List Nat} {f g:Nat->Bool}
end
end Fam
namespace L2
open PySem PySem.Spec PyProof.Rows
section
variable {m:Nat} {o cs cs':List Nat}
end
end L2
namespace Fam
end Fam
namespace Fam
end Fam
namespace L2
open PySem PySem.Spec PyProof.Rows
section
variable {X:Cx}
def qk5:qcl X (.builtin "len") (fun xs H Q=>∃p kvs,xs=[.ref p]/\H p=some (.dK kvs)/\Q (.int kvs.length) H):=by
 intro pins s σ H xs us Q I r h
 obtain ⟨p,kvs,rfl,hH,q⟩:=h
 obtain ⟨u,rfl,ru⟩:=qek r
 cases ru
 obtain ⟨z,y,vs,kv,d⟩:=I.hok p _ hH
 have hl:kvs.length=vs.length:=Paired.length kv
 have zz:sizeLine<2^63:=by decide
 refine call_len_dict y d (by omega) ⟨.int _,H,I.tok _,⟨_,by rw [hl]⟩,q⟩
end
end L2
namespace L2
open PySem PySem.Spec PyProof.Rows
abbrev sV (ys:List Str):List V:=ys.map V.str
def qf6:∀{ys:List Str} {us:List Value},qaV (sV ys) us->StrsAre us ys
 | [],_,.nil => .nil
 | y::ys,_,.cons r t=>by
   obtain ⟨k,rfl⟩:=(show ∃k,_=Value.str y k from r)
   exact .cons y k (qf6 t)
def qe0:∀(l:List (Str×Tok)),qaV (sV (l.map (·.1))) (strValues l)
 | [] => .nil
 | (y,t)::l => .cons ⟨t,rfl⟩ (qe0 l)
section
variable {X:Cx}
def qsl (K:PySem.W.Frag):V->List V->Hp->VK->Prop:=fun x vs H Q=>∃(sep:Str) (l:Addr) (ys:List Str),x = .str sep/\vs=[.ref l]/\SqL K H l (sV ys)/\(ys.map (·.length)).sum+ys.length*sep.length<=16777216/\Q (.str (Txt.join sep ys)) H
def qf3 {K:PySem.W.Frag} (hK:X.K=K):MtM X "str.join" (qsl K):=by
 subst hK
 intro pins s σ H x vs v us Q I rx rv h
 obtain ⟨sep,l,ys,rfl,rfl,hq,hz,q⟩:=h
 obtain ⟨t,rfl⟩:=rx
 obtain ⟨u,rfl,ru⟩:=rv.one
 cases (show u=Value.ref l from ru)
 obtain ⟨its,r,p,_⟩:=I.list hq
 exact join_list p.isList (by simpa using qf6 r) hz fun t' k=>⟨.str _,H,I.tok k,⟨_,rfl⟩,q⟩
def qqu:V->List V->Hp->VK->Prop:=fun x vs H Q=>∃(z y:Str),x = .str z/\vs=[.str y]/\(y.length==0)=false/\z.length<=100000/\∀l,H l=none->Q (.ref l) (upd H l (.lst (sV (Txt.split z y))))
def qgG:MtM X "str.split" qqu:=by
 intro pins s σ H x vs v us Q I rx rv h
 obtain ⟨z,y,rfl,rfl,hy,hz,q⟩:=h
 obtain ⟨t,rfl⟩:=rx
 obtain ⟨u,rfl,ru⟩:=rv.one
 obtain ⟨t2,rfl⟩:=ru
 have hl:=split_le z y
 have e24:sizeLine=16777216:=sizeLine_eq
 have fin:∀(l:List (Str×Tok)) (k:Nat),l.map (·.1)=Txt.split z y->EP X pins σ Q (.ref s.heap.objs.size) { s with heap:=s.heap.push { cls := .type "list",data := .seq (strValues l).toArray },toks:=k }:=fun l k e =>
   ⟨.ref s.heap.objs.size,_,I.lnew (ys:=sV (Txt.split z y)) (t':=k) (by rw [<-e];exact qe0 l) (by rw [ybz];omega),rfl,q _ I.fresh⟩
 cases h1:(decide (z.length<y.length)||decide (Builtin.Str.strKind z<Builtin.Str.strKind y)) with
 | true=>exact call_meets F.slot_str_split (typeIs_str _ _ _) F.entry_str_split (F.args_str_split_2 _ _) (meets_str_split_cannot_occur z y t t2 h1) (fin [(z,t)] s.toks (if_pos h1).symm)
 | false =>
   cases h2:(Builtin.Str.occurrences z y 0 z.length (z.length+1)).isEmpty with
   | true=>exact call_meets F.slot_str_split (typeIs_str _ _ _) F.entry_str_split (F.args_str_split_2 _ _) (meets_str_split_not_found z y t t2 h1 hy h2) (fin [(z,t)] s.toks ((if_neg (ne_true_of_eq_false h1)).trans (if_pos h2)).symm)
   | false =>
     have es:Txt.split z y=Builtin.Str.partsBetween z (Builtin.Str.occurrences z y 0 z.length (z.length+1)) y.length:=(if_neg (ne_true_of_eq_false h1)).trans (if_neg (ne_true_of_eq_false h2))
     refine call_meets F.slot_str_split (typeIs_str _ _ _) F.entry_str_split (F.args_str_split_2 _ _) (meets_str_split_sep z y t t2 h1 hy h2 (by omega) (by rw [<-es];omega)) ?_
     rw [strsFrom_eq]
     exact fin (numbered s.toks _) _ ((numbered_texts _ _).trans es.symm)
def qti:V->Option Int->Option Int->Hp->VK->Prop:=fun x lo hi H Q=>∃z:Str,x = .str z/\z.length<=100000/\Q (.str (Txt.slice z lo hi)) H
def qiC {v:Value} {o:Option Int} (h:IsPart v o):∃p:Option (Int×Tok),v=partValue p/\p.map (·.1)=o:=by
 cases h with
 | none=>exact ⟨none,rfl,rfl⟩
 | int=>exact ⟨some (_,_),rfl,rfl⟩
def qnn:SlR X qti:=by
 intro pins s σ H x v vl vu lo hi sl Q I rx hs pl pu h
 obtain ⟨z,rfl,hz,q⟩:=h
 obtain ⟨t,rfl⟩:=rx
 obtain ⟨a,rfl,rfl⟩:=qiC pl
 obtain ⟨b,rfl,rfl⟩:=qiC pu
 have e24:sizeLine=16777216:=sizeLine_eq
 refine ⟨"str",_,F.slot_str_getitem.lookup,typeIs_str _ _ _,wpAny_getItem_str_slice (l:=a) (u:=b) (st:=none) hs rfl (post_val_or_str ⟨ycf (Txt.slice_le z _ _) (by omega),fun t' k=>?_⟩)⟩
 exact ⟨.str _,H,I.tok k,⟨_,rfl⟩,q⟩
def qhg:OpR X (compareOp .LtE) (fun x y H Q=>∃i j,x = .str i/\y = .str j/\Q (.bl (!decide (j.cps.toList<i.cps.toList))) H):=by
 intro pins s σ H x y v u Q I rx ry h
 obtain ⟨i,j,rfl,rfl,q⟩:=h
 obtain ⟨t,rfl⟩:=rx
 obtain ⟨t',rfl⟩:=ry
 exact P.le_str (qaI I q rfl)
def qo6:V->List V->Hp->VK->Prop:=fun x vs H Q=>∃(l:Addr) (ys:List Str) (k:Str),x = .ref l/\vs=[.str k]/\H l=some (.lst (sV ys))/\k∈ys/\ys.length<=1000/\Q (.int (ys.idxOf k:Nat)) H
def qd3 (k:Str):∀{vs:List Value} {ys:List Str},StrsAre vs ys->∀(i:Nat) (h1:i<vs.length) (h2:i<ys.length),isStrOf k vs[i]=(ys[i]==k)
 | _,_,.nil,i,h1,_=>absurd h1 (yfq i)
 | _,_,.cons y t r,0,_,_=>rfl
 | _,_,.cons y t r,i+1,h1,h2=>qd3 k r i (ydl h1) (ydl h2)
def StrsAre.len:∀{vs:List Value} {ys:List Str},StrsAre vs ys->vs.length=ys.length
 | _,_,.nil=>rfl
 | _,_,.cons y t r=>congrArg (· + 1) (StrsAre.len r)
def qiL:∀{ys:List Str} {k:Str} {j:Nat},j<ys.idxOf k->∀h:j<ys.length,(ys[j]==k)=false
 | [],_,j,_,h=>absurd h (yfq j)
 | y::ys,k,j,w,h=>by
   rw [List.idxOf_cons] at w
   cases c:y==k with
   | true=>rw [c] at w;exact absurd w (by simp)
   | false =>
     rw [c] at w
     cases j with
     | zero=>exact c
     | succ j =>
       have w:j+1<ys.idxOf k+1:=w
       exact qiL (ys:=ys) (by omega) (ydl h)
def qkx:MtM X "list.index" qo6:=by
 intro pins s σ H x vs v us Q I rx rv h
 obtain ⟨l,ys,k,rfl,rfl,hH,hk,hb,q⟩:=h
 cases rx
 obtain ⟨u,rfl,ru⟩:=rv.one
 obtain ⟨t,rfl⟩:=ru
 obtain ⟨z,its,n,r,hl,e⟩:=I.lstM hH
 have hi:=qf6 r
 have hlen:=StrsAre.len hi
 have hj:ys.idxOf k<ys.length:=yfr.mpr hk
 refine call_meets yfs ⟨_,e,rfl⟩ yft (yfu _ _) (SeqAt.list_indexAt l its.toArray n none #[] (.str k t) (isStrOf k) (ys.idxOf k) (by rw [yeu];omega) (by omega) ?_ fun j w1 w2=>?_) ⟨e,fun y hy=>(eq_isStrOf k t hi y (by simpa using hy)).at _ _,?_⟩
 . exact (qd3 k hi _ (by omega) hj).trans (by simp)
 . refine (qd3 k hi j (by simpa using w1) (by omega)).trans ?_
   exact qiL w2 _
 . exact ⟨.int _,H,I.tok _,⟨_,rfl⟩,q⟩
end
end L2
namespace L2
open PySem PySem.Spec PyProof.Rows
def Its (z:Str):It:=⟨fun i _=>i<z.length,fun i H x H'=>H'=H/\∃c,z.cps[i]?=some c/\x = .str ⟨#[c]⟩,fun i _=>z.length<=i⟩
def qmX {P:Program} {w:World} {K:PySem.W.Frag} {tg:Expr} (z:Str) (t:Tok) (it:Addr):qpN P w K tg (Its z) [it] it (fun i h=>h.IsStrIter it "str_ascii_iterator" z t i) where
 mem:=by simp
 obj:=fun i h J b hb=>by
   obtain rfl:b=it:=by simpa using hb
   obtain ⟨oi,e1,_,e3⟩:=J
   exact ⟨oi,e1,fun v z=>by rw [e3] at z;cases z⟩
 keep:=fun i h h' J k=>by
   obtain ⟨oi,e1,r⟩:=J
   exact ⟨oi,k it (by simp) oi e1,r⟩
 item:=by
   intro X hP hw hK hc i pins s σ H E I hf J hg
   subst hP hw hK
   have hi:i<z.cps.size:=hg
   have hx:z.cps[i]?=some z.cps[i]:=Array.getElem?_eq_getElem hi
   obtain ⟨f0,f1,f2,f3,f4,f5⟩:=hf it (by simp)
   refine wpAny_pyNext_ascii_item J hx fun h' J' sb=>?_
   have I1:Inv X pins σ H { s with heap:=h',toks:=s.toks+1 }:=I.turned (fun b o hb e=>(sb.2 b hb).trans e) f0 f1 f3 f4 f5
   obtain ⟨oj,e1,e2,e3⟩:=id J'
   exact ⟨_,rfl,qoP (s:={ s with heap:=h',toks:=s.toks+1 }) e1 e2 e3 (by decide) ⟨.str ⟨#[z.cps[i]]⟩,H,I1,⟨_,rfl⟩,⟨rfl,_,hx,rfl⟩,J',fun b hb=>(hf b hb).1⟩⟩
 done:=by
   intro X hP hw hK hc i pins s σ H E I hf J hg
   subst hP hw hK
   obtain ⟨f0,f1,f2,f3,f4,f5⟩:=hf it (by simp)
   exact wpAny_pyNext_ascii_end (I.ok.hd hc) J (yci hg) fun h' eb=>⟨rfl,I.turned (t':=s.toks) (fun b o hb e=>eb b o hb e) f0 f1 f3 f4 f5⟩
 self:=fun _ _ _ _ _ J q=>wpAny_pyIter_striter_ascii J q
def qso (tl:TE):TI:=fun σ H R=>tl σ H fun x H1=>∃z:Str,x = .str z/\z.cps.all (· < 128)=true/\R (Its z) H1
section
variable {X:Cx} {tg:Expr}
def qqX {l:Expr} {tl:TE} (hl:PE X l tl):PI X tg l (qso tl):=by
 intro pins s σ H R I h
 refine thn (hl pins s σ H _ I h) fun v s1 ⟨x,H1,I1,r1,z,ex,ha,q⟩=>?_
 subst ex
 obtain ⟨t,rfl⟩:=r1
 refine wpAny_pyIter_ascii ha ⟨s1.heap.objs.size,[s1.heap.objs.size],_,_,H1,rfl,I1.kept (t':=s1.toks) fun b o e=>yde _ e,qmX z t _,⟨_,ydd _ rfl,rfl,rfl⟩,fun b hb=>?_,q⟩
 obtain rfl:b=s1.heap.objs.size:=by simpa using hb
 exact I1.fpOk (yax _) (I1.hok.fresh (yax _))
end
section
variable {g:TG} {tb:TS} {D:qe7} {σ:St} {H:Hp} {z:Str} {nt:Nat} {caps:List Nat} {tt:TT} {te tl:TE} {Q:VK}
def qq9:qnS (qso tl) g tb D σ H↔tl σ H fun x H1=>∃z:Str,x = .str z/\z.cps.all (· < 128)=true/\qfw (Its z) g tb D σ H1:=Iff.rfl
def qo5:qfy nt caps (qso tl) g tt te σ H Q↔tl σ H fun x H1=>∃z:Str,x = .str z/\z.cps.all (· < 128)=true/\qdE (Its z) nt caps g tt te σ H1 Q:=Iff.rfl
def sgs (z:Str):List Nat:=z.cps.toList
def qpa (z:Str):(sgs z).length=z.length:=by simp [sgs,Str.length]
def qrg {z:Str} {i:Nat}:(sgs z)[i]?=z.cps[i]?:=by simp [sgs]
def qdM (c:Nat->Bool) (fs:List Nat) (i x:Nat) (hx:fs[i]?=some x):(fs.take (i+1)).filter c=(fs.take i).filter c++if c x=true then [x] else []:=by
 rw [yfv,hx,yau]
 cases h:c x<;>simp [h]
def qqG (c:Nat->Bool) (f:Nat->V) (hz:z.length<=100000)
   (hs:∀x∈sgs z,∀H1,qav H H1->∀(R:VK) (R':Hp->Prop),(c x=true->∀H2,qav H1 H2->R (f x) H2)->(c x=false->∀H2,qav H1 H2->R' H2) ->
     g (.str ⟨#[x]⟩) (qbr nt caps σ) H1 fun σ4 H4=>tt σ4 H4 fun b H5=>if b=true then te σ4 H5 R else R' H5)
   (hd:∀H1 p,qav H H1->H1 p=none->Q (.ref p) (upd H1 p (.lst (((sgs z).filter c).map f)))):qdE (Its z) nt caps g tt te σ H Q:=by
 have e24:sizeLine=16777216:=sizeLine_eq
 refine ⟨fun i m ys H1=>m=z.length-i/\i<=z.length/\qav H H1/\ys=(((sgs z).take i).filter c).map f,⟨_,rfl,ych _,qav.refl _,rfl⟩,?_⟩
 rintro i m ys H2 ⟨rfl,hi,sm,rfl⟩
 have ln:((((sgs z).take i).filter c).map f).length<=i:=by
   rw [ybz]
   exact ycf (yfn _ _) (by rw [yem];omega)
 rcases yag i z.length with k | k
 . refine .inr ⟨k,by omega,fun x H3 y=>?_⟩
   obtain ⟨rfl,cc,k1,rfl⟩:=y
   have k2:(sgs z)[i]?=some cc:=qrg.trans k1
   have ex:=qdM c (sgs z) i cc k2
   refine hs cc (ybv k2) _ sm _ _ (fun hc H4 s4=>⟨z.length-(i+1),by omega,rfl,k,sm.trans s4,?_⟩) fun hc H4 s4=>⟨z.length-(i+1),by omega,rfl,k,sm.trans s4,?_⟩
   . rw [ex,hc,if_pos rfl,ycz]
     rfl
   . rw [ex,hc,if_neg yeh,ydn]
 . obtain rfl:i=z.length:=by omega
   refine .inl ⟨yax _,by omega,fun p hp=>?_⟩
   rw [show (sgs z).take z.length=sgs z from by rw [<-qpa];exact yco]
   exact hd H2 p sm hp
end
section
variable {X:Cx} {K:PySem.W.Frag}
def qtl (K:PySem.W.Frag):List V->Hp->VK->Prop:=fun xs H Q=>∃(l:Addr) (bs:List Bool),xs=[.ref l]/\SqL K H l (bs.map V.bl)/\Q (.bl (bs.all id)) H
def qmO (hc:X.calm=true) (hK:X.K=K):qcl X (.builtin "all") (qtl K):=by
 subst hK
 intro pins s σ H xs us Q I r h
 obtain ⟨l,bs,rfl,hq,q⟩:=h
 obtain ⟨u,rfl,ru⟩:=qek r
 cases (show u=Value.ref l from ru)
 obtain ⟨its,rv,p,hz⟩:=I.list hq
 have hl:=rv.length
 rw [ybz] at hl
 have hlt:l<s.heap.objs.size:=by
   obtain ⟨o,e,_⟩:=p.isList
   exact ydf e
 refine call_all_walk (wpAny_pyIter_list p.isList ?_)
 refine ⟨s.heap.objs.size,_,_,_,_,_,fun i=>bs.getD i true,rfl,Walks.list (A:=X.A.in1) (I.ok.hd hc) _ l (ydh hlt) its.toArray,⟨⟨_,ydd _ rfl,rfl,rfl⟩,?_⟩,fun i v s2 Q2 E2 hv hQ=>?_,fun h' tk hk=>?_⟩
 . obtain ⟨o,e,rr⟩:=p.isList
   exact ⟨o,yde _ e,rr⟩
 . have hv:its[i]?=some v:=by simpa using hv
   have hi:i<bs.length:=by
     have:=(ycd.mp hv).1
     omega
   obtain ⟨u2,h2,r2⟩:=rv.get (i:=i) (x := .bl bs[i]) (by rw [ydr,ybu hi];rfl)
   rw [hv] at h2
   cases h2
   cases (show v=Value.bool bs[i] from r2)
   have hQ:Q2 (bs.getD i true) s2:=hQ
   rw [yfg,ybu hi] at hQ
   exact wpAny_pure hQ
 . have e:(List.range its.toArray.size).all (fun i=>bs.getD i true)=bs.all id:=by
     rw [yeu,<-hl,yav,ybf,ybf]
     constructor
     . intro z b hb
       obtain ⟨j,hj,rfl⟩:=List.mem_iff_getElem.mp hb
       have:=z j (ybh.mpr hj)
       rw [yfg,ybu hj] at this
       exact this
     . intro z j hj
       have hj:=ybh.mp hj
       rw [yfg,ybu hj]
       exact z _ (ycy hj)
   rw [e]
   refine ⟨.bl _,H,I.kept fun b o z=>?_,rfl,q⟩
   refine hk b o (fun hm=>?_) (yde _ z)
   have l1:=ydf z
   have e1:b=s.heap.objs.size:=by simpa using hm
   rw [e1] at l1
   exact absurd l1 (ydz _)
end
end L2
namespace L2
open PySem PySem.Spec PyProof.Rows
def qct (v:Nat->Str):Nat->List Str
 | 0=>[]
 | i+1=>if (qct v i).any (·==v i) then qct v i else qct v i++[v i]
def qma (v:Nat->Str) (i:Nat) (k:Str):(qct v (i+1)).any (·==k)=((qct v i).any (·==k)||decide (k=v i)):=by
 show (if (qct v i).any (·==v i) then qct v i else qct v i++[v i]).any (·==k)=_
 by_cases c:(qct v i).any (·==v i)=true
 . rw [if_pos c]
   by_cases e:k=v i
   . rw [e,c];rfl
   . rw [decide_eq_false e,ydx]
 . rw [if_neg c,ybw]
   congr 1
   simp only [yew,List.any_nil,ydx]
   rw [yav,beq_iff_eq,decide_eq_true_eq]
   exact eq_comm
def qgl (v:Nat->Str) (i:Nat):(qct v (i+1)).length=if (qct v i).any (·==v i) then (qct v i).length else (qct v i).length+1:=by
 show (if (qct v i).any (·==v i) then qct v i else qct v i++[v i]).length=_
 split
 . rfl
 . simp
def qkp (v:Nat->Str):∀i,(qct v i).length<=i
 | 0=>yax _
 | i+1=>by
   rw [qgl]
   have:=qkp v i
   split<;>omega
section
variable {prog:Program} {w:World} {A:Around} {R:Result->Shared->Prop} {I:Addr} {fp wr:List Addr} {G:Array GenState->Array GenState->Prop} {n:Nat} {P:Nat->Value->Prop} {St:Nat->Shared->Prop}
def qm5 (W:WalksS prog w A.in1 I fp wr G n P St) (a:Addr) (na:a∉fp) (val:Nat->Str) (hv:∀i v,P i v->∃t,v = .str (val i) t) (few:n+1<scanBound) :
   ∀(k i:Nat) (s:Shared),n-i=k->i<=n->St i s->s.heap.SetOf (PySem.strKind prog w) a (fun x=>(qct val i).any (·==x)) (qct val i).length ->
     (∀s',Moved (a::wr) G s s'->s'.heap.SetOf (PySem.strKind prog w) a (fun x=>(qct val n).any (·==x)) (qct val n).length->R (.ok (.ret .none)) s') ->
     codeAny (model prog w) A (.builtin "set.update.loop" ⟨[.ref a,.ref I],[]⟩) R s:=by
 have nw:a∉wr:=fun z=>na (W.sub _ z)
 have qgT:∀b∈wr,b∈a::wr:=fun b z=>ybe _ z
 have keepS:∀{j:Nat} {s s':Shared},Moved wr G s s'->s.heap.SetOf (PySem.strKind prog w) a (fun x=>(qct val j).any (·==x)) (qct val j).length->s'.heap.SetOf (PySem.strKind prog w) a (fun x=>(qct val j).any (·==x)) (qct val j).length:=fun {j s s'} mv z=>by
   obtain ⟨o,es,ep,t,ho,rr⟩:=z
   exact ⟨o,es,ep,t,mv.heap a _ nw ho,rr⟩
 intro k
 induction k with
 | zero =>
   intro i s hk hi hst hS hR
   obtain rfl:i=n:=by omega
   refine codeAny_builtin F.entry_set_update_loop ?_
   rw [Around.under_plainId F.plain_set_update_loop _]
   refine (wpAny_bind (m:=pyNext (.ref I)) (W.done s _ _ hst fun s' mv=>?_))
   exact wpAny_pure (hR s' (mv.mono qgT) (keepS mv hS))
 | succ k ih =>
   intro i s hk hi hst hS hR
   have lt:i<n:=by omega
   refine codeAny_builtin F.entry_set_update_loop ?_
   rw [Around.under_plainId F.plain_set_update_loop _]
   refine (wpAny_bind (m:=pyNext (.ref I)) (W.item i s _ _ lt hst fun v s' pv st' mv=>?_))
   obtain ⟨t,rfl⟩:=hv i v pv
   have hS1:=keepS mv hS
   refine wpAny_bind (m:=holding [Value.str (val i) t] (setAdd a (.str (val i) t))) (wpAny_holding ?_)
   unfold setAdd
   refine (wpAny_holding ?_)
   have isv:(PySem.strKind prog w).is (val i) (.str (val i) t)=true:=strKind_is _ _ _ _
   refine wpAny_bind ((PySem.strKind prog w).pyHash (k:=val i) isv ?_)
   refine wpAny_setAddHashed_of (knd:=PySem.strKind prog w) (s:={ s' with toks:=s'.toks+1 }) isv rfl hS1 (by have:=qkp val i;omega) fun h' sb hS2=>?_
   have hS3:h'.SetOf (PySem.strKind prog w) a (fun x=>(qct val (i+1)).any (·==x)) (qct val (i+1)).length:=SetOf_congr hS2 (fun x=>(qma val i x).symm) (qgl val i).symm
   refine wpAny_pure ⟨plainId_quiet F.plain_set_update_loop _,ih (i+1) _ (by omega) lt (W.frame _ s' _ _ st' (ydc _) fun b hb o e=>?_) hS3 fun s2 mv2 hS4=>?_⟩
   . exact (sb.2 b (fun z:b=a=>na (z▸hb))).trans e
   . refine hR s2 (Moved.trans W.gtrans ((mv.mono qgT).then_heap (ydc _) fun b o hb e=>?_) mv2) hS4
     exact (sb.2 b (fun z:b=a=>hb (by rw [z];exact ybb))).trans e
end
def qlJ:∀{vs:List Value} {ys:List Str},StrsAre vs ys->∀(i:Nat) (v:Value),vs[i]?=some v->∃t,v = .str (ys.getD i Str.empty) t
 | _,_,.nil,i,v,h=>by simp at h
 | _,_,.cons y t r,0,v,h=>by cases h;exact ⟨t,rfl⟩
 | _,_,.cons y t r,i+1,v,h=>qlJ r i v (by simpa using h)
section
variable {prog:Program} {w:World} {A:Around} {E:Value->Shared->Prop} {s:Shared}
abbrev es0 (led:Bool):Obj:={ cls := .type "set",dict:=none,data := .set #[] 0 (.fresh 0 0 led) }
set_option maxHeartbeats 3200000 in
def qnh {l:Addr} {items:Array Value} {ys:List Str} {Q:Value->Shared->Prop} (hh:A.handled=none) (hl:s.heap.IsList l items) (hi:StrsAre items.toList ys) (few:items.size+1<scanBound)
   (k:∀(h':Heap) (tk:Nat),h'.SetOf (PySem.strKind prog w) s.heap.objs.size (fun x=>(qct (fun i=>ys.getD i Str.empty) items.size).any (·==x)) (qct (fun i=>ys.getD i Str.empty) items.size).length ->
     (∀b o,b<s.heap.objs.size->s.heap.get? b=some o->h'.get? b=some o)->Q (.ref s.heap.objs.size) { s with heap:=h',toks:=tk }) :
   wpAny (model prog w) A (call (.type "set") [.ref l]) Q E s:=by
 obtain ⟨c,tl,hmro⟩:=(F.called_set.mro)
 have k1:=F.called_set.made
 have k2:=F.called_set.sub
 refine (wpAny_call (codeAny_of_tree ?_))
 show wpAny _ _ (callAny (.type "set") _) _ _ s
 refine (wpAny_pure ⟨Code.quiet_builtin _ (by decide +kernel),codeAny_builtin F.entry_type_call ?_⟩)
 rw [Around.under_plain (weight_type_call_type "set" [.ref l] []) rfl]
 have k3:=F.called_set.notType
 have k4:=F.called_set.canCreate
 have k5:=F.typeCall_set_1 (.ref l)
 repeat (any_goals (first | assumption | wp_step))
 refine codeAny_mono (code_set_new_1 (.ref l) (E:=E) (Q₁:=fun ob s1=>∃led:Bool,ob = .ref s.heap.objs.size/\s1={ s with heap:=s.heap.push (es0 led) }) fun led=>⟨led,rfl,rfl⟩) fun r s1 hr=>?_
 cases r with
 | error e=>exact hr
 | ok fl =>
   cases fl with
   | ret ob =>
     obtain ⟨led,rfl,rfl⟩:=hr
     have at0:(s.heap.push (es0 led)).get? s.heap.objs.size=some (es0 led):=ydd _ rfl
     have ty0:Shared.TypeIs { s with heap:=s.heap.push (es0 led) } (.ref s.heap.objs.size) "set" := ⟨_,at0,rfl⟩
     have k6:=F.called_set.init.lookup
     have k7:=F.called_set.init.bind (.ref s.heap.objs.size)
     repeat (any_goals (first | assumption | wp_step))
     refine codeAny_mono (codeAny_call_builtin (R:=wants (fun r s2=>r = .none/\∃h' tk,s2={ s with heap:=h',toks:=tk } /\
         h'.SetOf (PySem.strKind prog w) s.heap.objs.size (fun x=>(qct (fun i=>ys.getD i Str.empty) items.size).any (·==x)) (qct (fun i=>ys.getD i Str.empty) items.size).length /\
         (∀b o,b<s.heap.objs.size->s.heap.get? b=some o->h'.get? b=some o)) E) F.called_set.init.plain F.entry_set_init (check_set_init_1 ty0 ?_)) fun r2 s2 hr2=>?_
     . obtain ⟨ol,at1,c1,nl,d1⟩:=hl
       obtain ⟨o1,o2,o3,o4⟩:=ol
       simp only at c1 d1
       subst c1
       subst d1
       have at2:(s.heap.push (es0 led)).get? l=some { cls := .type "list",dict:=o2,data := .seq items nl,slots:=o4 }:=yde _ at1
       have k8:=F.sub_list_set
       have k9:=F.sub_list_frozenset
       have k10:(Value.type "list" == Value.type "dict")=false:=by decide
       have il:(s.heap.push (es0 led)).IsList l items:=⟨_,at2,rfl,nl,rfl⟩
       unfold Builtin.«set.__init__» noKeywords Builtin.Frozenset.updateFrom
       generalize gPI:pyIter=PI
       wp_walk
       subst gPI
       refine (wpAny_pyIter_list il ?_)
       refine (wpAny_bind (wpAny_runValue ?_))
       have l0:l<s.heap.objs.size:=ydf at1
       have h3:A.in1.in1.in1.handled=none:=by simp [hh]
       have n1:l≠(s.heap.push (es0 led)).objs.size:=by
         rw [ydg]
         exact ydh (ydi l0)
       have n2:s.heap.objs.size∉[(s.heap.push (es0 led)).objs.size,l]:=by
         rw [ydg]
         simp only [ybd,ydu,ydj,or_false,not_or]
         exact ⟨ydh (yck _),ydk l0⟩
       refine qm5 ((Walks.list h3 _ l n1 items).toS) s.heap.objs.size n2 (fun i=>ys.getD i Str.empty) (fun i v hv=>qlJ hi i v (by rw [ycc];exact hv)) few (items.size-0) 0 _ (by omega) (ych _)
         ⟨⟨_,ydd _ rfl,rfl,rfl⟩,(il.push _)⟩ ?h0 ?hR
       case h0=>exact SetOf_congr ((setObjOf_fresh (knd:=PySem.strKind prog w) led).setOf (yde _ at0) (by unfold scanBound;omega)) (fun _=>rfl) rfl
       case hR =>
         intro s' mv hS'
         obtain ⟨h',g',d',tk',os'⟩:=s'
         cases (show g'=s.gens from mv.gens)
         cases (show d'=s.drawn from mv.drawn)
         cases (show os'=s.os from mv.os)
         refine (wpAny_pure ?_)
         show wpAny _ _ (ret Value.none) _ _ _
         refine wpAny_pure ⟨rfl,h',tk',rfl,hS',fun b o hb e=>mv.heap b o ?_ (yde _ (yde _ e))⟩
         simp only [ybd,ydu,ydj,or_false,not_or]
         exact ⟨ydh hb,by rw [ydg];exact ydh (ydi hb)⟩
     . cases r2 with
       | error e=>exact hr2
       | ok fl2 =>
         cases fl2 with
         | ret r =>
           obtain ⟨rfl,h',tk,rfl,z1,z2⟩:=hr2
           repeat (any_goals (first | assumption | wp_step))
           exact k _ _ z1 z2
         | _=>exact hr2.elim
   | _=>exact hr.elim
end
def cnt (ys:List Str):Nat:=(qct (fun i=>ys.getD i Str.empty) ys.length).length
abbrev SsO (P:Program) (w:World) (a:Addr) (n:Nat):HO := .ext fun h=>∃S:Str->Bool,h.SetOf (PySem.strKind P w) a S n
section
variable {X:Cx} {P:Program} {w:World} {K:PySem.W.Frag}
def qsC (P:Program) (w:World) (K:PySem.W.Frag):List V->Hp->VK->Prop:=fun xs H Q=>∃(l:Addr) (ys:List Str),xs=[.ref l]/\SqL K H l (sV ys)/\ys.length<=1000/\∀p,H p=none->Q (.ref p) (upd H p (SsO P w p (cnt ys)))
def qjH (hP:X.prog=P) (hw:X.w=w) (hK:X.K=K) (hc:X.calm=true):qcl X (.type "set") (qsC P w K):=by
 subst hP hw hK
 intro pins s σ H xs us Q I r h
 obtain ⟨l,ys,rfl,hq,hn,q⟩:=h
 obtain ⟨u,rfl,ru⟩:=qek r
 cases (show u=Value.ref l from ru)
 obtain ⟨its,rv,p,hz⟩:=I.list hq
 have hi:=qf6 rv
 have hl:=StrsAre.len hi
 refine qnh (I.ok.hd hc) p.isList (ys:=ys) (by simpa using hi) (by rw [yeu,hl];unfold scanBound;omega) fun h' tk hS kp=>?_
 have hS2:h'.SetOf (PySem.strKind X.prog X.w) s.heap.objs.size (fun x=>(qct (fun i=>ys.getD i Str.empty) ys.length).any (·==x)) (cnt ys):=by
   have hsz:its.toArray.size=ys.length:=by rw [yeu,hl]
   rw [hsz] at hS
   exact hS
 refine ⟨.ref s.heap.objs.size,_,I.laid (o:=SsO X.prog X.w s.heap.objs.size (cnt ys)) (fun b o e=>kp b o (ydf e) e) (yax _) ⟨⟨_,hS2⟩,?_,fun h1 h2 ⟨S,z⟩ kk=>?_⟩,rfl,q _ I.fresh⟩
 . obtain ⟨o,_,_,_,e,_⟩:=hS2
   exact ⟨o,e⟩
 . obtain ⟨o,es,ep,t,e,rr⟩:=z
   exact ⟨S,o,es,ep,t,kk o e,rr⟩
def qrR (P:Program) (w:World):List V->Hp->VK->Prop:=fun xs H Q=>∃(p:Addr) (n:Nat),xs=[.ref p]/\H p=some (SsO P w p n)/\n<=1000/\Q (.int (n:Nat)) H
def qkm (hP:X.prog=P) (hw:X.w=w):qcl X (.builtin "len") (qrR P w):=by
 subst hP hw
 intro pins s σ H xs us Q I r h
 obtain ⟨p,n,rfl,e,hn,q⟩:=h
 obtain ⟨u,rfl,ru⟩:=qek r
 cases (show u=Value.ref p from ru)
 obtain ⟨S,o,es,ep,t,e1,e2,e3,e4,e5,e6,e7,e8⟩:=(show qbe X.prog X.w H s.heap p (SsO X.prog X.w p n) from I.hok p _ e).1
 have hs:es.size=n:=e8
 exact call_len_set e1 e2 e3 e7 (by omega) ⟨.int (n:Nat),H,I.tok _,⟨_,by rw [hs]⟩,q⟩
end
def qez {X:Cx} {x z:Str} {p:Pos} (h:∃t,X.mg x=some (.str z t)) (hg:Gl X x) (hd:(x==("__debug__" : Str))=false:=by decide):PE X (.Name x p) (tC (.str z)):=by
 obtain ⟨t,h⟩:=h
 exact qb5 hg h ⟨t,rfl⟩ hd
def qm4 {D:qe7} {σ:St} {H:Hp} {c:TT} {u:TS}:qiX (qpT c qnm qjl) u D σ H↔c σ H fun b H1=>if b=true then False else u D σ H1:=Iff.rfl
end L2
namespace Tx
open PySem
abbrev sg (z:Str):List Nat:=z.cps.toList
def ext {a b:Str} (h:sg a=sg b):a=b:=by
 obtain ⟨a⟩:=a
 obtain ⟨b⟩:=b
 have:a=b:=Array.toList_inj.mp h
 rw [this]
def sg_app (a b:Str):sg (a++b)=sg a++sg b:=by
 show (a.cps++b.cps).toList=_
 simp
def jn (c:Nat):List (List Nat)->List Nat
 | []=>[]
 | [x]=>x
 | x::y::r=>x++c::jn c (y::r)
def sg_join (c:Nat):∀ys:List Str,sg (Str.join ⟨#[c]⟩ ys)=jn c (ys.map sg)
 | []=>rfl
 | [x]=>rfl
 | x::y::r=>by
   show sg (x++⟨#[c]⟩++Str.join ⟨#[c]⟩ (y::r))=sg x++c::jn c ((y::r).map sg)
   rw [sg_app,sg_app,sg_join c (y::r),ycq]
   rfl
def jn_cons {c:Nat} {x:List Nat} {r:List (List Nat)} (h:r≠[]):jn c (x::r)=x++c::jn c r:=by
 cases r with
 | nil=>exact absurd rfl h
 | cons y r=>rfl
def qnM {c:Nat}:∀{x y a b:List Nat},c∉x->c∉y->x++c::a=y++c::b->x=y/\a=b
 | [],[],a,b,_,_,h=>⟨rfl,by simpa using h⟩
 | [],q::y,a,b,_,hy,h=>by
   have:=List.cons.inj h
   exact absurd (this.1▸ybb) hy
 | p::x,[],a,b,hx,_,h=>by
   have:=List.cons.inj h
   exact absurd (this.1▸ybb) hx
 | p::x,q::y,a,b,hx,hy,h=>by
   have h:=List.cons.inj h
   obtain ⟨e1,e2⟩:=qnM (fun z=>hx (ybe _ z)) (fun z=>hy (ybe _ z)) h.2
   exact ⟨by rw [h.1,e1],e2⟩
def qnV {c:Nat}:∀{xs ys:List (List Nat)},xs≠[]->ys≠[]->(∀x∈xs,c∉x)->(∀y∈ys,c∉y)->jn c xs=jn c ys->xs=ys
 | [],_,h,_,_,_,_=>absurd rfl h
 | _,[],_,h,_,_,_=>absurd rfl h
 | [x],[y],_,_,_,_,h=>by rw [show x=y from h]
 | [x],y::q::r,_,_,hx,hy,h=>by
   have h:x=y++c::jn c (q::r):=h
   exact absurd (by rw [h];simp) (hx x ybb)
 | x::p::s,[y],_,_,hx,hy,h=>by
   have h:x++c::jn c (p::s)=y:=h
   exact absurd (by rw [<-h];simp) (hy y ybb)
 | x::p::s,y::q::r,_,_,hx,hy,h=>by
   have h:x++c::jn c (p::s)=y++c::jn c (q::r):=h
   obtain ⟨e1,e2⟩:=qnM (hx x ybb) (hy y ybb) h
   rw [e1,qnV (by simp) (by simp) (fun z hz=>hx z (ybe _ hz)) (fun z hz=>hy z (ybe _ hz)) e2]
def txt_join (c:Nat) (ys:List Str):sg (Txt.join ⟨#[c]⟩ ys)=jn c (ys.map sg):=by
 rw [show Txt.join ⟨#[c]⟩ ys=Str.join ⟨#[c]⟩ ys from StrLaws.glued_eq_join _ _,sg_join]
def qnt:∀{a b:List Str},a.map sg=b.map sg->a=b
 | [],[],_=>rfl
 | [],_::_,h=>by cases h
 | _::_,[],h=>by cases h
 | x::a,y::b,h=>by
   have h:=List.cons.inj h
   rw [ext h.1,qnt h.2]
def split_join {c:Nat} {ws:List Str} (h0:ws≠[]) (h:∀w∈ws,c∉sg w):Txt.split (Txt.join ⟨#[c]⟩ ws) ⟨#[c]⟩=ws:=by
 have e1:=StrLaws.join_split (Txt.join ⟨#[c]⟩ ws) ⟨#[c]⟩
 have e2:=congrArg sg e1
 rw [sg_join,txt_join] at e2
 have fr:=StrLaws.split_free (Txt.join ⟨#[c]⟩ ws) c
 refine qnt (qnV (c:=c) (fun z=>?_) (fun z=>h0 (yfw.mp z)) (fun x hx=>?_) (fun x hx=>?_) e2)
 . have:=PyProof.Rows.split_pos (Txt.join ⟨#[c]⟩ ws) ⟨#[c]⟩
   rw [yfw.mp z] at this
   exact absurd this (by decide)
 . obtain ⟨p,hp,rfl⟩:=ybq.mp hx
   exact fr p hp
 . obtain ⟨p,hp,rfl⟩:=ybq.mp hx
   exact h p hp
def jn_mem {c d:Nat}:∀{xs:List (List Nat)},d∈jn c xs->d=c\/∃x∈xs,d∈x
 | [],h=>by cases h
 | [x],h => .inr ⟨x,ybb,h⟩
 | x::y::r,h=>by
   have h:d∈x++c::jn c (y::r):=h
   rcases yat.mp h with z | z
   . exact .inr ⟨x,ybb,z⟩
   . rcases ybd.mp z with z | z
     . exact .inl z
     . rcases jn_mem z with w | ⟨q,w1,w2⟩
       . exact .inl w
       . exact .inr ⟨q,ybe _ w1,w2⟩
def jn_len {c M:Nat}:∀{xs:List (List Nat)},(∀x∈xs,x.length<=M)->(jn c xs).length<=xs.length*(M+1)
 | [],_=>ych _
 | [x],h=>by
   have:=h x ybb
   show x.length<=1*(M+1)
   omega
 | x::y::r,h=>by
   have h1:=h x ybb
   have h2:=jn_len (c:=c) (M:=M) (xs:=y::r) fun z hz=>h z (ybe _ hz)
   show (x++c::jn c (y::r)).length<=_
   rw [yby,yca]
   have e:(x::y::r).length*(M+1)=(y::r).length*(M+1)+(M+1):=by rw [yca (a:=x),Nat.add_mul,yfx]
   rw [e]
   omega
def Wd (w:Str):Prop:=1<=w.length/\w.length<=8/\∀c∈sg w,97<=c/\c<=122
def Wd.free {w:Str} (h:Wd w) {c:Nat} (hc:c<97):c∉sg w:=fun z=>by
 have:=(h.2.2 c z).1
 omega
def len_sg (w:Str):(sg w).length=w.length:=by simp [sg,Str.length]
structure Wds (ws:List Str):Prop where
 few:ws.length<=8
 nd:ws.Nodup
 wd:∀w∈ws,Wd w
 no:("none" : Str)∉ws
def lit_plus:("+" : Str)=⟨#[43]⟩:=by decide +kernel
def lit_space:(" " : Str)=⟨#[32]⟩:=by decide +kernel
def qgf:("-" : Str)=⟨#[45]⟩:=by decide +kernel
def qgN:("none" : Str)=⟨#[110,111,110,101]⟩:=by decide +kernel
def lit_empty:("" : Str)=⟨#[]⟩:=by decide +kernel
def wds (ws:List Str) (a:Nat):List Str:=(Fam.nms 8 a).map fun k=>ws.getD k Str.empty
def sT (ws:List Str) (a:Nat):Str:=if a=0 then "-" else Txt.join "+" (wds ws a)
def fT (ws:List Str) (fs:List Nat):Str:=if fs=[] then "none" else Txt.join " " (fs.map (sT ws))
def qm8:∀a,a<256->Fam.nms 8 a=[]->a=0:=by decide +kernel
section
variable {ws:List Str} {a:Nat}
def qnL (ha:a<2^ws.length) {k:Nat} (hk:k∈Fam.nms 8 a):k<ws.length:=by
 have hb:=(Fam.mem_nms.mp hk).2
 rcases yag k ws.length with c | c
 . exact c
 . rw [yad (yae ha (yaf (by decide) c))] at hb
   cases hb
def qeF (h:Wds ws) (ha:a<2^ws.length) {w:Str} (hw:w∈wds ws a):w∈ws:=by
 obtain ⟨k,hk,rfl⟩:=ybq.mp hw
 have hl:=qnL ha hk
 rw [yfg,ybu hl]
 exact ycy hl
def qrm (h:Wds ws) (ha:a<2^ws.length):a<256:=yae ha (yaf (n:=2) (by decide) h.few)
def qnI (h:Wds ws) (ha:a<2^ws.length) (h0:a≠0):wds ws a≠[]:=fun z=>h0 (qm8 a (qrm h ha) (yfw.mp z))
def qmL (h:Wds ws) (ha:a<2^ws.length):Txt.split (sT ws a) "+" = if a=0 then [("-" : Str)] else wds ws a:=by
 rw [lit_plus]
 unfold sT
 by_cases c:a=0
 . rw [if_pos c,if_pos c]
   have:Txt.split (Txt.join ⟨#[43]⟩ [("-" : Str)]) ⟨#[43]⟩=[("-" : Str)]:=split_join (by simp) fun w hw=>by
     rw [ydu.mp hw,qgf]
     decide
   exact this
 . rw [if_neg c,if_neg c,lit_plus]
   exact split_join (qnI h ha c) fun w hw=>(h.wd w (qeF h ha hw)).free (by decide)
def qpO (h:Wds ws) (ha:a<2^ws.length):32∉sg (sT ws a):=by
 unfold sT
 by_cases c:a=0
 . rw [if_pos c,qgf]
   decide
 . rw [if_neg c,lit_plus,txt_join]
   intro z
   rcases jn_mem z with e | ⟨x,hx,hz⟩
   . exact absurd e (by decide)
   . obtain ⟨w,hw,rfl⟩:=ybq.mp hx
     exact (h.wd w (qeF h ha hw)).free (by decide) hz
def qpk (h:Wds ws) (ha:a<2^ws.length):sT ws a ≠ "none" := by
 unfold sT
 by_cases c:a=0
 . rw [if_pos c]
   decide +kernel
 . rw [if_neg c]
   intro z
   have hm:=fun w hw=>qeF h ha (w:=w) hw
   have ne:=qnI h ha c
   have e:=congrArg sg z
   rw [lit_plus,txt_join,qgN] at e
   cases hw:wds ws a with
   | nil=>exact ne hw
   | cons x r =>
     cases r with
     | nil =>
       rw [hw] at e
       have ex:x = "none" := by
         rw [qgN]
         exact ext e
       exact h.no (ex▸hm x (by rw [hw];exact ybb))
     | cons y r =>
       rw [hw] at e
       have e:sg x++43::jn 43 ((y::r).map sg)=[110,111,110,101]:=e
       have:43∈[110,111,110,101]:=by
         rw [<-e]
         simp
       exact absurd this (by decide)
def qme (h:Wds ws) {fs:List Nat} (hb:∀b∈fs,b<2^ws.length):Txt.split (fT ws fs) " " = if fs=[] then [("none" : Str)] else fs.map (sT ws):=by
 rw [lit_space]
 unfold fT
 by_cases c:fs=[]
 . rw [if_pos c,if_pos c]
   have:Txt.split (Txt.join ⟨#[32]⟩ [("none" : Str)]) ⟨#[32]⟩=[("none" : Str)]:=split_join (by simp) fun w hw=>by
     rw [ydu.mp hw,qgN]
     decide
   exact this
 . rw [if_neg c,if_neg c,lit_space]
   refine split_join (fun z=>c (yfw.mp z)) fun w hw=>?_
   obtain ⟨b,hb',rfl⟩:=ybq.mp hw
   exact qpO h (hb b hb')
def qk1 (h:Wds ws) (ha:a<2^ws.length):(wds ws a).map (fun w=>ws.idxOf w)=Fam.nms 8 a:=by
 unfold wds
 rw [yds]
 have:∀k∈Fam.nms 8 a,((fun w=>ws.idxOf w) ∘ fun k=>ws.getD k Str.empty) k=k:=fun k hk=>by
   have hl:=qnL ha hk
   show ws.idxOf (ws.getD k Str.empty)=k
   rw [yfg,ybu hl,Option.getD_some]
   exact h.nd.idxOf_getElem k hl
 rw [yfl this,List.map_id']
end
end Tx
namespace L2
open PySem PySem.Spec PyProof.Rows
def qc3 (ys:List Str):(sV ys).all qbL=true:=by
 rw [ybf]
 intro x hx
 obtain ⟨z,_,rfl⟩:=ybq.mp hx
 rfl
def qiy (a b:List Str):qgR (sV a) (sV b)=decide (a=b):=by
 unfold qgR
 rw [ybz,ybz]
 by_cases hl:a.length=b.length
 . rw [show (a.length==b.length)=true by simpa using hl,yfh]
   rw [yav,ybf,decide_eq_true_eq]
   constructor
   . intro h
     refine ydv hl fun i h1 h2=>?_
     have q:=h i (ybh.mpr h1)
     simpa [List.getD,h1,h2,eqV] using q
   . rintro rfl j hj
     have hj':=ybh.mp hj
     simp [List.getD,hj',eqV]
 . rw [show (a.length==b.length)=false by simpa using hl,yee]
   exact (decide_eq_false fun e=>hl (by rw [e])).symm
def qqc (w:Str) (ys:List Str):inV (.str w) (sV ys)=decide (w∈ys):=by
 unfold inV
 rw [yav,ybj,decide_eq_true_eq]
 constructor
 . rintro ⟨x,hx,e⟩
   obtain ⟨z,hz,rfl⟩:=ybq.mp hx
   have:z=w:=by simpa [eqV] using e
   exact this▸hz
 . intro h
   exact ⟨.str w,ybq.mpr ⟨w,h,rfl⟩,by simp [eqV]⟩
def qbv (ys:List Str):(sV ys).length=ys.length:=ybz _
def qf7 {ys:List Str} {i:Nat} {w:Str} (h:ys[i]?=some w):atI (sV ys) (i:Int)=some (.str w):=qdP (by rw [ydr,h];rfl)
def qlE {M:Nat}:∀{ys:List Str},(∀y∈ys,y.length<=M)->(ys.map (·.length)).sum<=ys.length*M
 | [],_=>ych _
 | y::ys,h=>by
   rw [ycw,List.sum_cons,yca,Nat.add_mul,yfx]
   have h1:=h y ybb
   have h2:=qlE (M:=M) (ys:=ys) fun z hz=>h z (ybe _ hz)
   omega
def qdk {M N:Nat} {ys:List Str} {sep:Str} (h:∀y∈ys,y.length<=M) (hn:ys.length<=N) (hs:sep.length<=1) (hM:N*(M+1)<=16777216):(ys.map (·.length)).sum+ys.length*sep.length<=16777216:=by
 have h1:=qlE h
 have h2:ys.length*sep.length<=ys.length*1:=Nat.mul_le_mul_left _ hs
 have h3:ys.length*(M+1)<=N*(M+1):=yfy _ hn
 rw [Nat.mul_add] at h3
 omega
def qge (v:Nat->Str):∀i (w:Str),w∈qct v i->∃j,j<i/\w=v j
 | 0,w,h=>by cases h
 | i+1,w,h=>by
   have h:w∈if (qct v i).any (·==v i) then qct v i else qct v i++[v i]:=h
   split at h
   . obtain ⟨j,h1,h2⟩:=qge v i w h
     exact ⟨j,by omega,h2⟩
   . rcases yat.mp h with z | z
     . obtain ⟨j,h1,h2⟩:=qge v i w z
       exact ⟨j,by omega,h2⟩
     . exact ⟨i,by omega,ydu.mp z⟩
def qq6 {ys:List Str} (h:ys.Nodup):cnt ys=ys.length:=by
 have all:∀i,i<=ys.length->(qct (fun i=>ys.getD i Str.empty) i).length=i:=by
   intro i
   induction i with
   | zero=>intro _;rfl
   | succ i ih =>
     intro hi
     rw [qgl,if_neg,ih (by omega)]
     intro z
     obtain ⟨w,hw,e⟩:=ybj.mp z
     obtain ⟨j,hj,rfl⟩:=qge _ i w hw
     have e:ys.getD j Str.empty=ys.getD i Str.empty:=by simpa using e
     rw [yfg,yfg,ybu (by omega),ybu (by omega)] at e
     have:=(yeb h).mp (show ys[j]=ys[i] from e)
     omega
 exact all ys.length (yax _)
def qna {z:Str} (h:Tx.Wd z):z.cps.all (· < 128)=true:=by
 rw [<-Array.all_toList,ybf]
 intro c hc
 have:=h.2.2 c hc
 exact decide_eq_true (by omega)
def qtj {x:Nat} (h:97<=x):(!decide ((⟨#[x]⟩:Str).cps.toList<("a" : Str).cps.toList))=true:=by
 have e:("a" : Str).cps.toList=[97]:=by decide +kernel
 rw [e]
 show (!decide ([x] < [97]))=true
 rw [StrLaws.lt_cons_cons,StrLaws.lt_nil_nil,decide_eq_false (by omega)]
 simp
def qta {x:Nat} (h:x<=122):(!decide (("z" : Str).cps.toList<(⟨#[x]⟩:Str).cps.toList))=true:=by
 have e:("z" : Str).cps.toList=[122]:=by decide +kernel
 rw [e]
 show (!decide ([122] < [x]))=true
 rw [StrLaws.lt_cons_cons,StrLaws.lt_nil_nil,decide_eq_false (by omega)]
 simp
def tx (c:Nat) (ys:List Str):Str:=⟨((ys.map fun y=>c::Tx.sg y).flatten).toArray⟩
end L2
namespace L2
open PySem PySem.Spec PyProof.Rows
abbrev abc:Str := "abcdefghijklmnopqrstuvwxyz"
def qiR:∀i,i<26->abc.cps[i]?=some (97+i):=by decide +kernel
def qf2:abc.length=26:=by decide +kernel
def Ls (z:Str):Prop:=∀c∈Tx.sg z,97<=c/\c<=122
def qhJ {α:Type} (L:List α) (g:α->Str):L.map (fun k=>V.str (g k))=sV (L.map g):=by
 show _=List.map V.str (List.map _ _)
 rw [yds]
 rfl
def qiS:∀ys:List Str,Tx.sg (Str.join ⟨#[]⟩ ys)=(ys.map Tx.sg).flatten
 | []=>rfl
 | [x]=>by simp [Str.join]
 | x::y::r=>by
   show Tx.sg (x++⟨#[]⟩++Str.join ⟨#[]⟩ (y::r))=_
   rw [Tx.sg_app,Tx.sg_app,qiS (y::r),ycw,yfz]
   simp [Tx.sg]
def qdh (ys:List Str):Tx.sg (Txt.join ("" : Str) ys)=(ys.map Tx.sg).flatten:=by
 rw [Tx.lit_empty,show Txt.join ⟨#[]⟩ ys=Str.join ⟨#[]⟩ ys from StrLaws.glued_eq_join _ _,qiS]
def qod {ys:List Str} (h:∀y∈ys,∃c,y=⟨#[c]⟩/\97<=c/\c<=122):(Txt.join ("" : Str) ys).length=ys.length/\Ls (Txt.join ("" : Str) ys):=by
 constructor
 . rw [<-Tx.len_sg,qdh]
   induction ys with
   | nil=>rfl
   | cons y ys ih =>
     obtain ⟨c,rfl,_⟩:=h y ybb
     rw [ycw,yfz,yby,ih fun z hz=>h z (ybe _ hz),yca]
     show 1+ys.length=ys.length+1
     omega
 . intro c hc
   rw [qdh] at hc
   obtain ⟨l,hl,hc⟩:=yga.mp hc
   obtain ⟨y,hy,rfl⟩:=ybq.mp hl
   obtain ⟨d,rfl,h1,h2⟩:=h y hy
   rw [show c=d from by simpa [Tx.sg] using hc]
   exact ⟨h1,h2⟩
def qeD {z:Str} {lo hi:Option Int}:∀c∈Tx.sg (Txt.slice z lo hi),c∈Tx.sg z:=by
 intro c hc
 unfold Txt.slice at hc
 split at hc
 . exact hc
 . have hc:c∈(Builtin.Str.strSliceIndices lo hi 1 z.length).filterMap (z.cps[·]?):=by simpa [Tx.sg] using hc
   obtain ⟨i,_,e⟩:=ycx.mp hc
   have:(Tx.sg z)[i]?=some c:=by simpa [Tx.sg] using e
   exact ybv this
def qiO {z:Str} (h:Ls z) {lo hi:Option Int}:Ls (Txt.slice z lo hi):=fun c hc=>h c (qeD c hc)
def qra {z:Str} {j:Nat} (h:j<=z.length):(Txt.slice z none (some (j:Int))).length=j:=by
 have:=beq_iff_eq.mp (slice_closes_to (x:=z) (j:=(j:Int)) ⟨by omega,by rw [show z.cps.toList.length=z.length from Tx.len_sg z];omega⟩)
 rw [this,<-Tx.len_sg]
 show ((z.cps.toList.drop _).take _).length=j
 rw [yem,ycm,show z.cps.toList.length=z.length from Tx.len_sg z]
 simp<;>omega
def qmA {z:Str} {i:Nat} (h:i<=z.length):(Txt.slice z (some (i:Int)) none).length=z.length-i:=by
 rw [slice_from_eq (b:=z.length) (by omega) (by omega) rfl,<-Tx.len_sg]
 show ((z.cps.toList.drop _).take _).length=_
 rw [yem,ycm,show z.cps.toList.length=z.length from Tx.len_sg z]
 simp<;>omega
structure Gd (L:List Str):Prop where
 few:L.length<=8
 wd:∀w∈L,Tx.Wd w
 hd:∃w,L[0]?=some w/\w.length≠4
end L2
namespace Fly
open PySem
structure Left (fs ch:List Addr) (h h':Heap):Prop where
 keep:∀b o,h.get? b=some o->b∉fs->b∉ch->h'.get? b=some o
 slot:∀b o,h.get? b=some o->b∈fs->b∉ch->∃sl,h'.get? b=some { o with slots:=sl }
def At (h:Heap) (e T:Addr) (cls fl:Value):Prop :=
 T≠e/\∃oe vs oT ts,h.get? e=some oe/\oe.cls=cls/\oe.data = .fields vs/\vs[1]?=some (.ref T)/\h.get? T=some oT/\oT.data = .fields ts/\ts[3]?=some fl
def Left.trans {fs ch:List Addr} {h1 h2 h3:Heap} (a:Left fs ch h1 h2) (b:Left fs ch h2 h3):Left fs ch h1 h3 :=
 ⟨fun x o q n1 n2=>b.keep x o (a.keep x o q n1 n2) n1 n2,fun x o q n1 n2=>by
   obtain ⟨sl,q1⟩:=a.slot x o q n1 n2
   obtain ⟨sl2,q2⟩:=b.slot x _ q1 n1 n2
   exact ⟨sl2,q2⟩⟩
def Left.mono {fs fs' ch ch':List Addr} {h h':Heap} (a:Left fs ch h h') (hf:∀b∈fs,b∈fs') (hc:∀b∈ch,b∈ch'):Left fs' ch' h h' :=
 ⟨fun x o q n1 n2=>a.keep x o q (fun z=>n1 (hf x z)) (fun z=>n2 (hc x z)),fun x o q _ n2=>by
   by_cases c:x∈fs
   . exact a.slot x o q c fun z=>n2 (hc x z)
   . exact ⟨o.slots,a.keep x o q c fun z=>n2 (hc x z)⟩⟩
section
variable {M:Model} {A:Around} {E:Value->Shared->Prop} {s:Shared} {base:Heap} {env:Env} {outer:List Env} {L e:Addr}
def qpQ {oe:Obj} {vs:Array Value} {hd:Value} {nx:Bool} {Q:Unit->Shared->Prop}
   (hA:A.frames=some (env::outer)) (hF:s.heap.FunFrames base (env::outer)) (hL:env.frame=some L) (he:s.heap.get? e=some oe) (hv:oe.data = .fields vs) (hz:1<vs.size)
   (k:∀h' T,s.heap.get? T=none->Left ((env::outer).filterMap (·.frame)) [e] s.heap h'->At h' e T oe.cls (rawInt L)->Q () { s with heap:=h' }) :
   wpAny M A (do let fr <-frameOf env;let pl <-entryPlaceOf L nx;let en <-EntryCells.newEntry hd fr .none (rawInt L) .none pl;setField (.ref e) 1 en) Q E s:=by
 have hef:e∉(env::outer).filterMap (·.frame):=fun z=>by
   obtain ⟨_,o,q,nf⟩:=hF.mem z
   rw [he] at q
   cases q
   exact nf vs hv
 refine wpAny_bind (wpAny_frameOf_fun hA hF hL fun h1 s1=>?_)
 refine wpAny_bind (wpAny_entryPlaceOf fun pl ip=>?_)
 unfold EntryCells.newEntry newFields
 refine wpAny_bind (wpAny_newObj_type ?_ (ip.sizeOk5 _ _ _ _ _))
 have e1:h1.get? e=some oe:=(s1.2.1 e hef).trans he
 generalize gT:({ cls := .type "traceback",dict:=none,data := .fields ([hd,.ref L,.none,rawInt L,.none]++(if pl.isEmpty then List.replicate 6 Value.none else pl)).toArray }:Obj)=oT
 have e2:=yde (h:=h1) oT e1
 refine wpAny_setField e2 hv hz (k _ h1.objs.size ?_ ?_ ?_)
 . cases q:s.heap.get? h1.objs.size with
   | none=>rfl
   | some o =>
     have:=ydf q
     rw [s1.1] at this
     exact absurd this (ydz _)
 . refine ⟨fun b o q n1 n2=>?_,fun b o q n1 n2=>?_⟩
   . rw [ydq _ _ (fun z=>n2 (by rw [<-z];exact .head _))]
     exact yde _ ((s1.2.1 b n1).trans q)
   . obtain ⟨sl,q1⟩:=s1.2.2 b o q
     refine ⟨sl,?_⟩
     rw [ydq _ _ (fun z=>n2 (by rw [<-z];exact .head _))]
     exact yde _ q1
 . have ne:h1.objs.size≠e:=ydk (ydf e1)
   have d3:=Obj.data_mapFields hv (·.setIfInBounds 1 (Value.ref h1.objs.size))
   refine ⟨ne,_,_,oT,_,yda (Obj.mapFields (·.setIfInBounds 1 (Value.ref h1.objs.size))) e2 (Obj.isFreed_of_fields d3),Obj.cls_mapFields _ _,d3,by simp [hz],?_,by rw [<-gT],by simp⟩
   rw [ydq _ _ (Ne.symm ne)]
   exact ydd h1 (by rw [<-gT];rfl)
def lands {T:Addr} {cls fl:Value} {Q:Unit->Shared->Prop} (x:At s.heap e T cls fl) (k:∀h',Left [] [T] s.heap h'->At h' e T cls .none->Q () { s with heap:=h' }) :
   wpAny M A (setFlight (.ref e) none) Q E s:=by
 obtain ⟨ne,oe,vs,oT,ts,he,hc,hv,h1,hT,ht,h3⟩:=x
 have hz:3<ts.size:=(ygb.mp h3).1
 refine wpAny_setFlight_none he hv h1 hT ht hz (k _ ⟨fun b o q _ n=>?_,fun b _ _ z=>absurd z (by simp)⟩ ?_)
 . rw [ydq _ _ (fun z=>n (by rw [<-z];exact .head _))]
   exact q
 . refine ⟨ne,oe,vs,_,_,?_,hc,hv,h1,yda _ hT (Obj.isFreed_of_fields (Obj.data_mapFields ht _)),Obj.data_mapFields ht _,by simp [hz]⟩
   rw [ydq _ _ ne]
   exact he
def leave1 {oe:Obj} {vs:Array Value} {Q:Unit->Shared->Prop}
   (hA:A.frames=some (env::outer)) (hF:s.heap.FunFrames base (env::outer)) (hL:env.frame=some L) (he:s.heap.get? e=some oe) (hv:oe.data = .fields vs) (h1:vs[1]?=some .none)
   (k:∀h' T,s.heap.get? T=none->Left ((env::outer).filterMap (·.frame)) [e,T] s.heap h'->At h' e T oe.cls .none->Q () { s with heap:=h' }) :
   wpAny M A (leaving env (.ref e)) Q E s:=by
 unfold leaving noteFrame
 simp only [hL]
 refine wpAny_bind (wpAny_bind (wpAny_field he hv h1 ?_))
 rw [if_neg (by decide)]
 refine qpQ hA hF hL he hv (ygb.mp h1).1 fun h' T nT l1 a1=>?_
 refine lands (s:={ s with heap:=h' }) a1 fun h2 l2 a2=>k h2 T nT ?_ a2
 exact (l1.mono (fun _ z=>z) (fun b z=>by simp at z ⊢;exact .inl z)).trans (l2.mono (fun _ z=>absurd z (by simp)) (fun b z=>by simp at z ⊢;exact .inr z))
def noted {T:Addr} {cls:Value} {Q:Unit->Shared->Prop}
   (hA:A.frames=some (env::outer)) (hF:s.heap.FunFrames base (env::outer)) (hL:env.frame=some L) (x:At s.heap e T cls .none)
   (k:∀h' T2,s.heap.get? T2=none->Left ((env::outer).filterMap (·.frame)) [e,T] s.heap h'->At h' e T2 cls (rawInt L)->Q () { s with heap:=h' }) :
   wpAny M A (noteFrame (.ref e) env) Q E s:=by
 obtain ⟨ne,oe,vs,oT,ts,he,hc,hv,h1,hT,ht,h3⟩:=x
 subst hc
 unfold noteFrame
 simp only [hL]
 refine wpAny_bind (wpAny_field he hv h1 ?_)
 rw [if_pos (show (Value.ref T != Value.none)=true from by simp)]
 refine wpAny_bind (wpAny_field hT ht h3 ?_)
 rw [if_neg (show ¬((Value.none==rawInt L)=true) from by simp [rawInt])]
 refine wpAny_bind (wpAny_setField hT ht (ygb.mp h3).1 ?_)
 generalize gh:s.heap.update T (Obj.mapFields (·.setIfInBounds 3 Value.none))=h2
 have ot:∀b,b≠T->h2.get? b=s.heap.get? b:=fun b hb=>by rw [<-gh];exact ydq _ _ (Ne.symm hb)
 have ntT:∀b o,s.heap.get? b=some o->(∀vs,o.data ≠ .fields vs)->b≠T:=fun b o q nf z=>by
   rw [z,hT] at q
   cases q
   exact nf ts ht
 refine qpQ (s:={ s with heap:=h2 }) hA (hF.of_keeps fun b o q nf=>⟨o,(ot b (ntT b o q nf)).trans q,rfl⟩) hL ((ot e (Ne.symm ne)).trans he) hv (ygb.mp h1).1 fun h' T2 n2 l a=>k h' T2 ?_ ⟨fun b o q n1 n3=>?_,fun b o q n1 n3=>?_⟩ a
 . cases q:s.heap.get? T2 with
   | none=>rfl
   | some o =>
     by_cases c:T2=T
     . rw [c] at n2
       rw [show ({ s with heap:=h2 }:Shared).heap=h2 from rfl,<-gh,yda _ hT (Obj.isFreed_of_fields (Obj.data_mapFields ht _))] at n2
       cases n2
     . have:=(ot T2 c).trans q
       rw [show h2.get? T2=none from n2] at this
       cases this
 . simp only [ybd,ydj,or_false,not_or] at n3
   exact l.keep b o ((ot b n3.2).trans q) n1 (by simpa using n3.1)
 . simp only [ybd,ydj,or_false,not_or] at n3
   exact l.slot b o ((ot b n3.2).trans q) n1 (by simpa using n3.1)
def leave2 {T:Addr} {cls:Value} {Q:Unit->Shared->Prop}
   (hA:A.frames=some (env::outer)) (hF:s.heap.FunFrames base (env::outer)) (hL:env.frame=some L) (x:At s.heap e T cls .none)
   (k:∀h' T2,s.heap.get? T2=none->Left ((env::outer).filterMap (·.frame)) [e,T,T2] s.heap h'->At h' e T2 cls .none->Q () { s with heap:=h' }) :
   wpAny M A (leaving env (.ref e)) Q E s:=by
 unfold leaving
 refine wpAny_bind (noted hA hF hL x fun h' T2 nT l1 a1=>?_)
 refine lands (s:={ s with heap:=h' }) a1 fun h2 l2 a2=>k h2 T2 nT ?_ a2
 exact (l1.mono (fun _ z=>z) (fun b z=>by simp at z ⊢;rcases z with z | z<;>simp [z])).trans (l2.mono (fun _ z=>absurd z (by simp)) (fun b z=>by simp at z ⊢;simp [z]))
end
end Fly
namespace Fly
open PySem
abbrev Lk {α:Type} (h:Heap) (t:Sem α) (r:α):Prop:=∀{M:Model} {A:Around} {E:Value->Shared->Prop} {g:Array GenState} {d:Drawn} {tk:Nat} {os:OsState} {Q:α->Shared->Prop},Q r ⟨h,g,d,tk,os⟩->wpAny M A t Q E ⟨h,g,d,tk,os⟩
structure Cl (h:Heap) (C:Addr):Prop where
 ga:Lk h (typeLookup (.ref C) "__getattribute__") (some (.builtin "BaseException.__getattribute__"))
 gt:Lk h (typeLookup (.ref C) "__getattr__") none
 cl:Lk h (typeLookup (.ref C) "__class__") (some (.builtin "object.__class__"))
 be:Lk h (isSubtype (.ref C) (.type "BaseException")) true
 ob:Lk h (isSubtype (.ref C) (.type "object")) true
section
variable {prog:Program} {w:World} {A:Around} {E:Value->Shared->Prop} {h:Heap} {g:Array GenState} {d:Drawn} {t:Nat} {os:OsState} {a C:Addr} {o:Obj}
def qpj {R:Result->Shared->Prop} (c:Cl h C) (hx:h.get? a=some o) (hc:o.cls = .ref C) (hq:R (.ok (.ret (.ref C))) ⟨h,g,d,t,os⟩) :
   codeAny (model prog w) A (.call (.builtin "getset_descriptor.__get__") ⟨[.builtin "object.__class__",.ref a,.ref C],[]⟩) R ⟨h,g,d,t,os⟩:=by
 have k5:(⟨h,g,d,t,os⟩:Shared).TypeIs (.builtin "object.__class__") "getset_descriptor" := F.typeOf_object_class
 have c8:Lk h (isSubtype (.ref C) (.type (".".intercalate ("object.__class__".cutAt '.').dropLast))) true:=by
   rw [F.owner_object_class]
   intro M A E g d tk os Q z
   exact c.ob z
 refine codeAny_call_builtin F.slot_gs_get.plain F.entry_gs_get (F.slot_gs_get.check _ _ _ _ _ _ _ _ k5 (F.args_gs_get _ _ _) ?_)
 repeat (any_goals (first | assumption | (with_reducible refine wpAny_loadPart_at hx ?_;rw [hc]) | with_reducible refine c8 ?_ | wp_step))
 refine ⟨Code.quiet_builtin _ (by decide +kernel),codeAny_builtin F.entry_object_class ?_⟩
 repeat (any_goals (first | assumption | (with_reducible refine wpAny_loadPart_at hx ?_;rw [hc]) | wp_step))
def qlr {tk:Tok} {Q:Fin->Shared->Prop} (c:Cl h C) (hx:h.get? a=some o) (hc:o.cls = .ref C) (hq:Q (.done (.ret (.ref C))) ⟨h,g,d,t,os⟩) :
   wpAny (model prog w) A (Builtin.«object.__getattribute__» ⟨[.ref a,.str "__class__" tk],[]⟩) Q E ⟨h,g,d,t,os⟩:=by
 have k5:(⟨h,g,d,t,os⟩:Shared).TypeIs (.builtin "object.__class__") "getset_descriptor" := F.typeOf_object_class
 have k6:=F.typeOf_object_class
 have k7:=F.slot_gs_get.lookup
 have k8:=F.slot_gs_set.lookup
 repeat (any_goals (first | assumption | (with_reducible refine wpAny_loadPart_at hx ?_;rw [hc]) | with_reducible refine c.cl ?_ | wp_step))
 refine qpj c hx hc ?_
 repeat (any_goals (first | assumption | wp_step))
def qlC {M:Model} {nv:Value} {Q:Unit->Shared->Prop} (c:Cl h C) (hx:h.get? a=some o) (hc:o.cls = .ref C) (hq:Q () ⟨h,g,d,t,os⟩) :
   wpAny M A (checkBuiltinCall "BaseException.__getattribute__" ⟨[.ref a,nv],[]⟩) Q E ⟨h,g,d,t,os⟩:=by
 have k1:builtinKind "BaseException.__getattribute__" = some .slot:=by decide +kernel
 have k2:splitId "BaseException.__getattribute__" = some ("BaseException", "__getattribute__"):=by decide +kernel
 have k3:=F.args_bexc_ga (.ref a) nv
 simp only [checkBuiltinCall,k1,k2]
 refine wpAny_bind ?_
 unfold isInstance
 repeat (first | (with_reducible refine wpAny_loadPart_at hx ?_;rw [hc]) | with_reducible refine c.be ?_ | wp_step)
 exact hq
def qm2 {tk:Tok} {R:Result->Shared->Prop} (c:Cl h C) (hx:h.get? a=some o) (hc:o.cls = .ref C) (hq:R (.ok (.ret (.ref C))) ⟨h,g,d,t,os⟩) :
   codeAny (model prog w) A (.call (.builtin "BaseException.__getattribute__") ⟨[.ref a,.str "__class__" tk],[]⟩) R ⟨h,g,d,t,os⟩ :=
 codeAny_call_builtin F.attr_ValueError.ga.plain F.entry_bexc_ga (qlC c hx hc (qlr c hx hc hq))
def qrp {tk:Tok} {Q:Value->Shared->Prop} (c:Cl h C) (hx:h.get? a=some o) (hc:o.cls = .ref C) (hq:Q (.ref C) ⟨h,g,d,t,os⟩) :
   wpAny (model prog w) A (getAttrBy (.ref a) (.str "__class__" tk) false) Q E ⟨h,g,d,t,os⟩:=by
 have k3:=F.attr_ValueError.ga.bind (.ref a)
 have k4:(Value.builtin "BaseException.__getattribute__" == Value.builtin "object.__getattribute__")=false:=by decide +kernel
 have k5:(onTheHeap (Value.ref C)&&Value.builtin "BaseException.__getattribute__" == Value.builtin "object.__getattribute__")=false:=by rw [k4];rfl
 repeat (any_goals (first | assumption | (with_reducible refine wpAny_loadPart_at hx ?_;rw [hc]) | with_reducible refine c.ga ?_ | with_reducible refine c.gt ?_ | wp_step))
 refine qm2 c hx hc ?_
 repeat (any_goals (first | assumption | wp_step))
def cls_attr {Q:Option Value->Shared->Prop} (c:Cl h C) (hx:h.get? a=some o) (hc:o.cls = .ref C) (hq:Q (some (.ref C)) ⟨h,g,d,t+1,os⟩) :
   wpAny (model prog w) A (getAttr? (.ref a) "__class__") Q E ⟨h,g,d,t,os⟩:=by
 unfold getAttr? getAttrBy?
 repeat (any_goals (first | assumption | with_reducible apply qrp c hx hc | wp_step))
def matches_own {M:Model} {B:Addr} {cdB:ClassData} {ddB:Option Addr} {slB:Array (Option Value)} {b:Bool} {Q:Bool->Shared->Prop} (hx:h.get? a=some o) (hc:o.cls = .ref C)
   (hB:h.get? B=some { cls := .type "type",dict:=ddB,data := .cls cdB,slots:=slB })
   (be:Lk h (isSubtype (.ref B) (.type "BaseException")) true) (su:Lk h (isSubtype (.ref C) (.ref B)) b) (hq:Q b ⟨h,g,d,t,os⟩):wpAny M A (excMatches (.ref a) (.ref B)) Q E ⟨h,g,d,t,os⟩:=by
 have k1:=tc_notTuple
 unfold excMatches
 cases b<;>(repeat (first | (with_reducible refine wpAny_loadPart_at hx ?_;rw [hc]) | with_reducible refine wpAny_loadPart_at hB ?_ | with_reducible refine be ?_ | with_reducible refine su ?_ | wp_step))<;>exact hq
end
end Fly
namespace L2
open PySem PySem.Spec PyProof.Rows
section
variable {P:Program} {w:World} {H H':Hp} {h h1 h2:Heap} {fs fs' ch:List Addr}
def qbe.some {a:Addr} {o:HO} (x:qbe P w H h a o):∃ob,h.get? a=some ob:=by
 cases o with
 | lst xs=>obtain ⟨_,_,_,_,e⟩:=x;exact ⟨_,e⟩
 | tup xs=>obtain ⟨_,_,_,_,e,_⟩:=x;exact ⟨_,e⟩
 | dK kvs=>obtain ⟨_,_,_,_,o,_,_,e,_⟩:=x;exact ⟨_,e⟩
 | dT kvs=>obtain ⟨_,_,_,_,o,_,_,e,_⟩:=x;exact ⟨_,e⟩
 | set S n=>obtain ⟨o,_,_,_,e,_⟩:=x;exact ⟨_,e⟩
 | ins C dx fs=>obtain ⟨_,_,_,e,_⟩:=x;exact ⟨_,e⟩
 | own y=>exact x
 | xd fs=>obtain ⟨_,⟨_,_,_,e,_⟩,_⟩:=x;exact ⟨_,e⟩
 | rng lo hi=>obtain ⟨_,_,_,e⟩:=x;exact ⟨_,e⟩
 | frz ob u=>obtain ⟨e,_⟩:=x;exact ⟨_,e⟩
 | tbl ps=>exact ⟨_,x⟩
 | met f y=>exact ⟨_,x⟩
 | ext φ=>obtain ⟨_,e,_⟩:=x;exact e
def HOk.none_of (x:HOk P w H h) {a:Addr} (e:h.get? a=none):H a=none:=by
 cases q:H a with
 | none=>rfl
 | some o =>
   obtain ⟨ob,z⟩:=(x a o q).some
   rw [e] at z
   cases z
def Un.left (u:Un fs [] H H' h h1) (l:Fly.Left fs' ch h1 h2) (hf:∀b o,h.get? b=some o->b∈fs'->b∈fs) (hc:∀b∈ch,h.get? b=none):Un fs [] H H' h h2:=by
 have nc:∀b o,h.get? b=some o->b∉ch:=fun b o q z=>by rw [hc b z] at q;cases q
 refine ⟨fun b o q n n1 n2=>l.keep b o (u.keep b o q n n1 n2) (fun z=>n1 (hf b o q z)) (nc b o q),fun b o q n n1 n2=>?_,u.free,fun b o q n2=>?_,u.tups,u.frzs,u.tbls⟩
 . obtain ⟨sl,q1⟩:=u.slot b o q n n1 n2
   by_cases c:b∈fs'
   . obtain ⟨sl2,q2⟩:=l.slot b _ q1 c (nc b o q)
     exact ⟨sl2,q2⟩
   . exact ⟨sl,l.keep b _ q1 c (nc b o q)⟩
 . obtain ⟨o',q1⟩:=u.there b o q n2
   by_cases c:b∈fs'
   . obtain ⟨sl2,q2⟩:=l.slot b _ q1 c (nc b o q)
     exact ⟨_,q2⟩
   . exact ⟨_,l.keep b _ q1 c (nc b o q)⟩
def HOk.left (x:HOk P w H h1) (l:Fly.Left fs' ch h1 h2) (hf:∀b∈fs',H b=none) (hc:∀b∈ch,H b=none):HOk P w H h2:=fun b ob e=>by
 have no:∀c,(c=b\/H c=Option.some (.own b))->H c≠none:=fun c z=>by
   rcases z with rfl | z
   . rw [e];simp
   . rw [z];simp
 exact (x b ob e).stay (fun c v hz q=>l.keep c v q (fun z=>no c hz (hf c z)) fun z=>no c hz (hc c z)) (fun _ q=>q) fun _ _ q=>q
end
def CX1 (P:Program) (w:World):CXT:=fun outer H s E x s'=>∃(e T C:Addr) (H':Hp),x = .ref e/\s'.os=s.os/\AllBare s'.gens/\Un (frs outer) [] H H' s.heap s'.heap/\HOk P w H' s'.heap /\
 s.heap.get? e=none/\s.heap.get? T=none/\H' e=none/\H' T=none/\Fly.At s'.heap e T (.ref C) .none/\E (.ref C) none H'
section
variable {P:Program} {w:World} {K:PySem.W.Frag} {mg:Str->Option Value} {base:Heap} {N:List Str} {qual:Str} {scope:Scope} {f:Addr} {cd:Value} {A:Around} {outer:List Env} {s0:Shared} {H0:Hp} {E:XK}
 {pins:List (Addr×Obj)} {σ:St} {H:Hp} {s:Shared}
def qmZ {e C:Addr} {args:List Value} {h':Heap} (I:Inv (qgS (CX1 P w) P w K mg base N qual scope f cd A outer s0 H0 E) pins σ H s) (mk:Heap.MadeExcOf s.heap h' e (.ref C) args) (q:E (.ref C) none H) :
   (qgS (CX1 P w) P w K mg base N qual scope f cd A outer s0 H0 E).xe (.ref e) { s with heap:=h' }:=by
 obtain ⟨t,he,nt,ht⟩:=mk.there
 have up:∀b o,s0.heap.get? b=some o->∃o',s.heap.get? b=some o':=fun b o z=>I.base.there b o z (by show b∉[];simp)
 have no:∀b,s.heap.get? b=none->s0.heap.get? b=none:=fun b z=>by
   cases c:s0.heap.get? b with
   | none=>rfl
   | some o =>
     obtain ⟨o',c2⟩:=up b o c
     rw [z] at c2
     cases c2
 have hk:HOk P w H h':=I.hok.kept mk.keeps
 refine Fly.leave1 (s:={ s with heap:=h' }) (base:=base) I.ok.frames (I.stack.of_keeps fun b o z _=>⟨o,mk.keeps b o z,rfl⟩) rfl he rfl rfl fun h2 T nT l a=>?_
 have nT':s.heap.get? T=none:=by
   cases c:s.heap.get? T with
   | none=>rfl
   | some o=>rw [mk.keeps T o c] at nT;cases nT
 have ff:∀b∈frs (qgS (CX1 P w) P w K mg base N qual scope f cd A outer s0 H0 E).stack,H b=none:=I.stkFree
 have cc:∀b∈[e,T],H b=none:=fun b z=>by
   simp only [ybd,ydj,or_false] at z
   rcases z with rfl | rfl
   . exact I.hok.none_of mk.new
   . exact I.hok.none_of nT'
 refine ⟨e,T,C,H,rfl,I.os,I.bare,?_,hk.left l ff cc,no e mk.new,no T nT',I.hok.none_of mk.new,I.hok.none_of nT',a,q⟩
 have u1:Un (frs outer) [] H0 H s0.heap h':=Un.left I.base (fs':=[]) (ch:=[]) ⟨fun b o z _ _=>mk.keeps b o z,fun b _ _ z=>absurd z (by simp)⟩ (fun _ _ _ z=>absurd z (by simp)) (fun _ z=>absurd z (by simp))
 refine u1.left l (fun b o z m=>?_) (fun b z=>?_)
 . rcases ybd.mp (I.stkSub b m) with c | c
   . have l1:=ydf z
     have l2:s0.heap.objs.size<=_:=I.ok.above
     rw [c] at l1
     exact absurd l1 (ycg.mpr l2)
   . exact c
 . simp only [ybd,ydj,or_false] at z
   rcases z with rfl | rfl
   . exact no _ mk.new
   . exact no _ nT'
def qff:qcf (CX1 P w) (qgS (CX1 P w) P w K mg base N qual scope f cd A outer s0 H0 E) E:=by
 rintro pins σ H s x s' I ⟨e,T,C,H',rfl,os,bare,U,hok,n1,n2,n3,n4,a,q⟩
 have J:=I.call' os U hok bare (ch:=[]) fun b z=>absurd z (by simp)
 have no:∀b,s.heap.get? b=none->s0.heap.get? b=none:=fun b z=>by
   cases c:s0.heap.get? b with
   | none=>rfl
   | some o =>
     obtain ⟨o',c2⟩:=I.base.there b o c (by show b∉[];simp)
     rw [z] at c2
     cases c2
 have no':∀b,s'.heap.get? b=none->s0.heap.get? b=none:=fun b z=>by
   cases c:s0.heap.get? b with
   | none=>rfl
   | some o =>
     obtain ⟨o',c2⟩:=J.base.there b o c (by show b∉[];simp)
     rw [z] at c2
     cases c2
 refine Fly.leave2 (base:=base) J.ok.frames J.stack rfl a fun h2 T2 nT l a2=>?_
 have cc:∀b∈[e,T,T2],s0.heap.get? b=none/\H' b=none:=fun b z=>by
   simp only [ybd,ydj,or_false] at z
   rcases z with rfl | rfl | rfl
   . exact ⟨no _ n1,n3⟩
   . exact ⟨no _ n2,n4⟩
   . exact ⟨no' _ nT,hok.none_of nT⟩
 refine ⟨e,T2,C,H',rfl,J.os,J.bare,?_,hok.left l J.stkFree fun b z=>(cc b z).2,no e n1,no' T2 nT,n3,hok.none_of nT,a2,q⟩
 refine Un.left J.base l (fun b o z m=>?_) fun b z=>(cc b z).1
 rcases ybd.mp (J.stkSub b m) with c | c
 . have l1:=ydf z
   have l2:s0.heap.objs.size<=_:=J.ok.above
   rw [c] at l1
   exact absurd l1 (ycg.mpr l2)
 . exact c
end
def qfm {K:PySem.W.Frag} {h:Heap} {C:Addr} {bmB:List Value} {newId:String} (kin:K.In h) (z:PySem.W.excIn K C bmB newId=true) :
   ∃bm ns nm qn bs hdct sn sub ab col dd k0 k1 k2 k3 k5 mN,h.get? C=some (excClassObj nm qn C ns bs bm hdct sn sub ab col dd k0 k1 k2 k3 k5 newId)/\h.Ns ns mN/\mN "__init__" = none/\OwnTail h bmB bm:=by
 unfold PySem.W.excIn at z
 split at z
 next dd cd sl at1 =>
   split at z
   next C2 bm k0 k1 k2 k3 nn k5 em es =>
     simp only [yab,beq_iff_eq,yaw] at z
     obtain ⟨⟨⟨⟨⟨z1,z2⟩,z3⟩,z4⟩,z5⟩,z6⟩:=z
     subst z1
     subst z2
     obtain ⟨nm,bs,mro,ns,qn,hd,sn,sub,ab,col,del⟩:=cd
     dsimp only at em z3 z5 z6
     subst em
     subst z3
     obtain ⟨ll⟩:=sl
     dsimp only at es
     subst es
     exact ⟨bm,ns,nm,qn,bs,hd,sn,sub,ab,col,dd,k0,k1,k2,k3,k5,_,kin _ _ at1,.of_isNs (PySem.W.isNs_of_in kin z5),PySem.W.nsMap_none_of_in kin z5 z6,PySem.W.tail_of_in kin z4⟩
   next=>cases z
 next=>cases z
section
variable {X:Cx}
def qjR (C:Addr) (E:XK) (te:TE):TS:=fun _ σ H=>te σ H fun _ H1=>E (.ref C) none H1
def qnu (X:Cx) (E:XK):Prop:=∀(pins:List (Addr×Obj)) (σ:St) (H:Hp) (s:Shared) (e C:Addr) (args:List Value) (h':Heap),Inv X pins σ H s->Heap.MadeExcOf s.heap h' e (.ref C) args->E (.ref C) none H->X.xe (.ref e) { s with heap:=h' }
def qcK {P:Program} {w:World} {K:PySem.W.Frag} {mg:Str->Option Value} {base:Heap} {N:List Str} {qual:Str} {scope:Scope} {f:Addr} {cd:Value} {A:Around} {outer:List Env} {s0:Shared} {H0:Hp} {E:XK} :
 qnu (qgS (CX1 P w) P w K mg base N qual scope f cd A outer s0 H0 E) E:=fun _ _ _ _ _ _ _ _ I mk q=>qmZ I mk q
def qdr {x:Str} {C:Addr} {e:Expr} {te:TE} {E:XK} {np cpos pos:Pos} {bmB:List Value} {B newId initId:String} (hg:Gl X x) (hm:X.mg x=some (.ref C)) (hx:PySem.W.excIn X.K C bmB newId=true)
   (FB:ExcBaseFacts B newId initId bmB) (hc:X.calm=true) (th:qnu X E) (he:PE X e te) (hs:starEach [e] X.env=(false,eval e X.env)::starEach [] X.env:=by rfl) (hdb:(x==("__debug__" : Str))=false:=by decide) :
   PS X (.Raise (some (.Call (.Name x np) [e] [] cpos)) none pos) (qjR C E te):=by
 intro pins s σ H D I h
 obtain ⟨bm,ns,nm,qn,bs,hdct,sn,sub,ab,col,dd,k0,k1,k2,k3,k5,mN,o1,o2,o3,o4⟩:=qfm I.ok.mod.kin hx
 refine wpAny_Raise_call_subT (C:=C) (nm:=nm) (q:=qn) (N:=ns) (bs:=bs) (bm:=bm) (hdct:=hdct) (sn:=sn) (sub:=sub) (ab:=ab) (col:=col) (dd:=dd) (k0:=k0) (k1:=k1) (k2:=k2) (k3:=k3) (k5:=k5) FB (mN:=mN) (o4.hasType FB.hasBase) (I.ok.hd hc) (by rw [hs];rfl) o3 (qd2 I hg hm ⟨rfl,?_⟩ hdb)
 rw [hs]
 refine Calls.evalArgs_plain (Calls.spliced_cons (thn (he pins s σ H _ I h) fun v s1 ⟨y,H1,I1,r1,q1⟩=>Calls.spliced_nil ?_))
 exact ⟨rfl,by show 1<=sizeLine;decide,I1.bk _ _ o1,o2.keeps I1.bk,o4.keeps I1.bk,fun h' e mk=>th pins σ H1 s1 e C _ h' I1 mk q1⟩
abbrev Cx.pinned (X:Cx) (ps:List (Addr×Obj)):Cx:={ X with pn:=X.pn++ps }
abbrev Cx.within (X:Cx) (ps:List (Addr×Obj)) (e:Addr):Cx:={ X with pn:=X.pn++ps,A:=X.A.mark (some (.ref e)),calm:=false,xe:=fun _ _=>False }
variable {pins ps:List (Addr×Obj)} {σ:St} {H:Hp} {s:Shared} {e:Addr}
def Inv.pin1 (I:Inv X pins σ H s):Inv (X.pinned pins) [] σ H s :=
 ⟨⟨I.ok.mod,I.ok.kind,I.ok.glob,I.ok.blt,I.ok.above,I.ok.inj,I.ok.has,I.ok.cab,I.ok.hd,I.ok.frames,I.ok.stk,I.ok.exf,I.ok.bs,I.ok.bsz,I.ok.noex,I.ok.exfs,I.ok.funs,I.ok.frf⟩,I.os,I.bare,I.base,I.loc,I.cell,I.free,I.freeC,fun p hp=>I.pin p (by simpa using hp),I.hok,I.len⟩
def Inv.unpin1 (I:Inv (X.pinned pins) ps σ H s):Inv X pins σ H s :=
 ⟨⟨I.ok.mod,I.ok.kind,I.ok.glob,I.ok.blt,I.ok.above,I.ok.inj,I.ok.has,I.ok.cab,I.ok.hd,I.ok.frames,I.ok.stk,I.ok.exf,I.ok.bs,I.ok.bsz,I.ok.noex,I.ok.exfs,I.ok.funs,I.ok.frf⟩,I.os,I.bare,I.base,I.loc,I.cell,I.free,I.freeC,fun p hp=>I.pin p (yas _ hp),I.hok,I.len⟩
def Inv.within (I:Inv (X.pinned pins) ps σ H s):Inv (X.within pins e) [] σ H s :=
 ⟨⟨I.ok.mod,I.ok.kind,I.ok.glob,I.ok.blt,I.ok.above,I.ok.inj,I.ok.has,I.ok.cab,fun z=>Bool.noConfusion z,I.ok.frames,I.ok.stk,I.ok.exf,I.ok.bs,I.ok.bsz,I.ok.noex,I.ok.exfs,I.ok.funs,I.ok.frf⟩,I.os,I.bare,I.base,I.loc,I.cell,I.free,I.freeC,fun p hp=>I.pin p (yas _ (by simpa using hp)),I.hok,I.len⟩
def Inv.outside (I:Inv (X.within pins e) ps σ H s) (ok:X.Ok):Inv X pins σ H s :=
 ⟨ok,I.os,I.bare,I.base,I.loc,I.cell,I.free,I.freeC,fun p hp=>I.pin p (yas _ hp),I.hok,I.len⟩
def SP.unpinned {D:qe7} {f:Flow} {xe:Value->Shared->Prop} (h:SP ((X.pinned pins).wish xe) ps D f s):SP X pins D f s:=by
 cases f with
 | next=>obtain ⟨σ',H',I,q⟩:=h;exact ⟨σ',H',I.unwish.unpin1,q⟩
 | brk=>obtain ⟨σ',H',I,q⟩:=h;exact ⟨σ',H',I.unwish.unpin1,q⟩
 | cont=>obtain ⟨σ',H',I,q⟩:=h;exact ⟨σ',H',I.unwish.unpin1,q⟩
 | ret u=>obtain ⟨v,σ',H',I,r,q⟩:=h;exact ⟨v,σ',H',I.unwish.unpin1,r,q⟩
def qcv {M:Model} {A:Around} {E:Value->Shared->Prop} {i:Nat} {n:Str} {pos:Pos} {Q:Unit->Shared->Prop} (I:Inv X pins σ H s) (hN:X.N.Nodup) (hi:X.N[i]?=some n) (hk:X.env.scope.names.lookup n=some .local)
   (q:∀s',Inv X pins (σ.set i none) H s'->Q () s'):wpAny M A (do bindName X.env n .none;unbindBehindTheSuite X.env n pos) Q E s:=by
 obtain ⟨m,hn,hl⟩:=id I.loc
 have hcls:(X.env.scope.kind == .class||(X.env.scope.kind == .module&&X.env.locals != X.env.globals))=false:=by rw [I.ok.kind];rfl
 have cne:=I.cne
 have below:∀b o,X.s₀.heap.get? b=some o->b≠X.env.locals:=fun b o z=>ydh (yae (ydf z) I.ok.above)
 refine wpAny_nameGoes_keeps hk hn hcls fun h' v hn' hs=>q _ ?_
 refine ⟨I.ok,I.os,I.bare,⟨fun b o z n1 n2 n3=>(hs.2 b (below b o z)).trans (I.base.keep b o z n1 n2 n3),fun b o z n1 n2 n3=>?_,I.base.free,fun b o z n3=>?_,I.base.tups,I.base.frzs,I.base.tbls⟩,⟨_,hn',fun j y v' e1 e2 e3=>?_⟩,fun y c z=>?_,I.free,I.freeC,fun p hp=>?_,fun b ob z=>?_,by simpa using I.len⟩
 . obtain ⟨sl,z1⟩:=I.base.slot b o z n1 n2 n3
   exact ⟨sl,(hs.2 b (below b o z)).trans z1⟩
 . obtain ⟨o',z1⟩:=I.base.there b o z n3
   exact ⟨o',(hs.2 b (below b o z)).trans z1⟩
 . by_cases c:j=i
   . subst c
     rw [List.getElem?_set] at e2
     split at e2
     . split at e2<;>cases e2
     . exact absurd rfl ‹_›
   . rw [yed (Ne.symm c)] at e2
     obtain ⟨u',r',l⟩:=hl j y v' e1 e2 e3
     refine ⟨u',r',?_⟩
     rcases l with ⟨k1,k2⟩ | ⟨k1,c2,k2,k3⟩
     . refine .inl ⟨k1,?_⟩
       have:y≠n:=fun z=>c (qgv hN e1 (z▸hi))
       simp [this,k2]
     . exact .inr ⟨k1,c2,k2,k3.sameBut hs (cne y c2 k2)⟩
 . obtain ⟨w',z1⟩:=I.cell y c z
   exact ⟨w',z1.sameBut hs (cne y c z)⟩
 . obtain ⟨z1,z2,z3,z4,z5⟩:=I.pin p hp
   exact ⟨(hs.2 p.1 z3).trans z1,z2,z3,z4,z5⟩
 . refine (I.hok b ob z).stay (fun c v hz q=>(hs.2 c ?_).trans q) (fun _ q=>q) fun _ _ q=>q
   rintro rfl
   have fr:=I.free
   rcases hz with hz | hz
   . rw [<-hz,fr] at z;cases z
   . rw [fr] at hz;cases hz
abbrev XO (e C:Addr):HO := .ext fun h=>∃o,h.get? e=some o/\o.cls = .ref C
def qs4 (i:Nat) (C:Addr) (tb:XK->TS) (th:TS):TS:=fun D σ H =>
 tb (fun c _ H'=>c = .ref C/\∀(e:Addr) (σ':St),σ'.length=σ.length->H' e=none ->
   th { nx:=fun σ2 H2=>D.nx (σ2.set i none) H2,rt:=D.rt,bk:=fun σ2 H2=>D.bk (σ2.set i none) H2,ct:=fun σ2 H2=>D.ct (σ2.set i none) H2 } (σ'.set i (some (.ref e))) (upd H' e (XO e C))) D σ H
def Fly.lk {α:Type} {h:Heap} {t:Sem α} {r:α} (x:∀M,PySem.W.Looks M h t r):Fly.Lk h t r:=fun z=>(x _).at z
def qsQ {i:Nat} {n x:Str} {body suite:List Stmt} {b0:Stmt} {B C:Addr} {tb:XK->TS} {th:TS} {np hp pos:Pos} {bmB:List Value} {newId:String}
   (hN:X.N.Nodup) (hi:X.N[i]?=some n) (hl:X.env.scope.names.lookup n=some .local) (st:X.stack=X.env::X.outer) (hf:X.env.frame=some X.env.locals)
   (hg:Gl X x) (hm:X.mg x=some (.ref B)) (xB:PySem.W.excIn X.K B bmB newId=true) (be:PySem.W.subIn X.K (.ref B) (.type "BaseException")=some true) (su:PySem.W.subIn X.K (.ref C) (.ref B)=some true)
   (hb:∀(pins:List (Addr×Obj)) (xe:Value->Shared->Prop) (E:XK),qcf (CX1 X.prog X.w) ((X.pinned pins).wish xe) E->PSs ((X.pinned pins).wish xe) body (tb E))
   (hs:∀(pins:List (Addr×Obj)) (e:Addr),PSs (X.within pins e) (b0::suite) th) (hdb:(x==("__debug__" : Str))=false:=by decide) :
   PS X (.Try body [.ExceptHandler (some (.Name x np)) (some n) (b0::suite) hp] [] [] pos) (qs4 i C tb th):=by
 intro pins s σ H D I h
 refine wpAny_Try_except ?_
 let E1:XK:=fun c _ H'=>c = .ref C/\∀(e:Addr) (σ':St),σ'.length=σ.length->H' e=none ->
   th { nx:=fun σ2 H2=>D.nx (σ2.set i none) H2,rt:=D.rt,bk:=fun σ2 H2=>D.bk (σ2.set i none) H2,ct:=fun σ2 H2=>D.ct (σ2.set i none) H2 } (σ'.set i (some (.ref e))) (upd H' e (XO e C))
 let xe1:Value->Shared->Prop:=fun x s'=>∃p1 σ1 H1 s1,Inv (X.pinned pins) p1 σ1 H1 s1/\CX1 X.prog X.w X.stack H1 s1 E1 x s'
 have hp1:qcf (CX1 X.prog X.w) ((X.pinned pins).wish xe1) E1:=fun p1 σ1 H1 s1 x s' I1 c=>⟨p1,σ1,H1,s1,I1.unwish,c⟩
 refine wpAny_mono (hb pins xe1 E1 hp1 [] s σ H D (I.pin1.wish _) h) (fun f s1 q=>?_) fun x s1 q=>?_
 . have q':=SP.unpinned q
   cases f with
   | next=>exact wpAny_execs_nil q'
   | brk=>exact q'
   | cont=>exact q'
   | ret u=>exact q'
 . obtain ⟨p1,σ1,H1,s2,I1,e,T,C',H',rfl,os,bare,U,hok,n1,n2,n3,n4,a,ec,qh⟩:=q
   cases ec
   have hst:(X.pinned pins).stack=X.env::X.outer:=st
   have J:=I1.call' os U hok bare (ch:=[]) fun b z=>absurd z (by simp)
   have no:∀b,s1.heap.get? b=none->s2.heap.get? b=none:=fun b z=>by
     cases c:s2.heap.get? b with
     | none=>rfl
     | some o =>
       obtain ⟨o',c2⟩:=U.there b o c (by simp)
       rw [z] at c2
       cases c2
   refine Fly.noted (base:=X.base) (L:=X.env.locals) (show X.A.frames=_ from st▸I.ok.frames) (show s1.heap.FunFrames X.base (X.env::X.outer) from st▸J.stack) hf a fun h2 T2 nT l2 a2=>?_
   refine Fly.lands (s:={ s1 with heap:=h2 }) a2 fun h3 l3 a3=>?_
   have cc:∀b∈[e,T,T2],s2.heap.get? b=none/\H' b=none:=fun b z=>by
     simp only [ybd,ydj,or_false] at z
     rcases z with rfl | rfl | rfl
     . exact ⟨n1,n3⟩
     . exact ⟨n2,n4⟩
     . exact ⟨no _ nT,hok.none_of nT⟩
   have l2:Fly.Left (frs X.stack) [e,T,T2] s1.heap h2:=by
     rw [st]
     exact l2.mono (fun _ z=>z) fun b z=>by simp at z ⊢;rcases z with z | z<;>simp [z]
   have l3:Fly.Left (frs X.stack) [e,T,T2] h2 h3:=l3.mono (fun _ z=>absurd z (by simp)) fun b z=>by simp at z ⊢;simp [z]
   have l23:=l2.trans l3
   have go:∀{h':Heap} {t':Nat},Fly.Left (frs X.stack) [e,T,T2] s1.heap h'->Inv (X.pinned pins) p1 σ1 H' { s1 with heap:=h',toks:=t' }:=fun {h' t'} l =>
     I1.call' (s':={ s1 with heap:=h',toks:=t' }) os (U.left l (fun _ _ _ z=>z) fun b z=>(cc b z).1) (hok.left l J.stkFree fun b z=>(cc b z).2) bare (ch:=[]) fun b z=>absurd z (by simp)
   have J3:Inv (X.within pins e) [] σ1 H' { s1 with heap:=h3 }:=(go (t':=s1.toks) l23).within
   refine wpAny_handleBy_cons (codeAny_handlers_test (qd2 J3 (x:=x) hg hm ?_ hdb)) (by intro z;cases z)
   have kin:=J3.kIn
   obtain ⟨bm,ns,nm,qn,bs,hdct,sn,sub,ab,col,dd,k0,k1,k2,k3,k5,mN,o1,_⟩:=qfm kin xB
   obtain ⟨neT,oe,vs,oT,ts,he,hc,_⟩:=id a3
   refine Fly.matches_own (C:=C) (b:=true) he hc o1 (Fly.lk fun M=>PySem.W.looks_subIn kin be) (Fly.lk fun M=>PySem.W.looks_subIn kin su) ?_
   refine codeAny_handlers_suite_as (Fly.lands (s:={ s1 with heap:=h3 }) a3 fun h4 l4 a4=>?_)
   have l4:Fly.Left (frs X.stack) [e,T,T2] s1.heap h4:=l23.trans (l4.mono (fun _ z=>absurd z (by simp)) fun b z=>by simp at z ⊢;simp [z])
   obtain ⟨_,oe4,_,_,_,he4,hc4,_⟩:=id a4
   have ne1:∀b o,s2.heap.get? b=some o->b≠e:=fun b o z c=>by rw [c,n1] at z;cases z
   have neH:∀b o,H' b=some o->b≠e:=fun b o z c=>by rw [c,n3] at z;cases z
   have U4:=U.left l4 (fun _ _ _ z=>z) fun b z=>(cc b z).1
   have hok4:=hok.left l4 J.stkFree fun b z=>(cc b z).2
   have J5:Inv (X.pinned pins) p1 σ1 (upd H' e (XO e C)) { s1 with heap:=h4 }:=by
     refine I1.call' (s':={ s1 with heap:=h4 }) os (H':=upd H' e (XO e C)) ⟨U4.keep,U4.slot,fun b o z m1 m2=>?_,U4.there,fun b xs z=>?_,fun b o u z=>?_,fun b qs z=>?_⟩ (fun b ob z=>?_) bare (ch:=[]) fun b z=>absurd z (by simp)
     . rw [qap (ne1 b o z)]
       exact U4.free b o z m1 m2
     . have:=U4.tups b xs z
       rw [qap (neH b _ this)]
       exact this
     . have:=U4.frzs b o u z
       rw [qap (neH b _ this)]
       exact this
     . obtain ⟨qgT,this⟩:=U4.tbls b qs z
       refine ⟨qgT,?_⟩
       rw [qap (neH b _ this)]
       exact this
     . by_cases c:b=e
       . subst c
         rw [qaj] at z
         cases z
         exact ⟨⟨oe4,he4,hc4⟩,⟨oe4,he4⟩,fun g1 g2 ⟨o,z1,z2⟩ k=>⟨o,k o z1,z2⟩⟩
       . rw [qap c] at z
         refine (hok4 b ob z).stay (fun _ _ _ q=>q) (fun c2 q=>?_) fun c2 xs q=>?_
         . rw [qap (neH c2 _ q)]
           exact q
         . rw [qap (neH c2 _ q)]
           exact q
   refine qcU (X:=X.within pins e) (v := .ref e) (i:=i) (x:=n) J5.within hN hi (.inl hl) rfl (fun s6 I6=>?_) (.inr hl)
   refine wpAny_mono (hs pins e [] s6 _ _ _ I6 (qh e σ1 (I1.len.trans I.len.symm) n3)) (fun f s7 q7=>?_) fun _ _ z=>z.elim
   cases f with
   | next=>obtain ⟨σ7,H7,I7,d⟩:=q7;exact qcv (I7.outside I.ok) hN hi hl fun s8 I8=>⟨_,_,I8,d⟩
   | brk=>obtain ⟨σ7,H7,I7,d⟩:=q7;exact qcv (I7.outside I.ok) hN hi hl fun s8 I8=>⟨_,_,I8,d⟩
   | cont=>obtain ⟨σ7,H7,I7,d⟩:=q7;exact qcv (I7.outside I.ok) hN hi hl fun s8 I8=>⟨_,_,I8,d⟩
   | ret u=>obtain ⟨v,σ7,H7,I7,r,d⟩:=q7;exact qcv (I7.outside I.ok) hN hi hl fun s8 I8=>⟨v,_,_,I8,r,d⟩
end
structure qpr (K:PySem.W.Frag) (C:Addr):Prop where
 cls:∃bmB newId,PySem.W.excIn K C bmB newId=true
 ga:PySem.W.findIn K (.ref C) "__getattribute__" = some (some (.builtin "BaseException.__getattribute__"))
 gt:PySem.W.findIn K (.ref C) "__getattr__" = some none
 cl:PySem.W.findIn K (.ref C) "__class__" = some (some (.builtin "object.__class__"))
 be:PySem.W.subIn K (.ref C) (.type "BaseException")=some true
 ob:PySem.W.subIn K (.ref C) (.type "object")=some true
def qpr.look {K:PySem.W.Frag} {C:Addr} (k:qpr K C) {h:Heap} (kin:K.In h):Fly.Cl h C :=
 ⟨Fly.lk fun M=>PySem.W.looks_findIn kin k.ga,Fly.lk fun M=>PySem.W.looks_findIn kin k.gt,Fly.lk fun M=>PySem.W.looks_findIn kin k.cl,Fly.lk fun M=>PySem.W.looks_subIn kin k.be,Fly.lk fun M=>PySem.W.looks_subIn kin k.ob⟩
def qpr.kit {K:PySem.W.Frag} {C:Addr} (k:qpr K C) (e:Addr):PySem.W.KitX K (.ref e) (.ref C) (fun h=>∃o,h.get? e=some o/\o.cls = .ref C) where
 ty:=fun M h _ ⟨o,h1,h2⟩=>h2▸(PySem.W.Looks.ld h1).andThen .now
 it:=fun M h kin _=>by
   obtain ⟨bmB,nw,z⟩:=k.cls
   obtain ⟨bm,ns,nm,qn,bs,hdct,sn,sub,ab,col,dd,k0,k1,k2,k3,k5,mN,o1,_⟩:=qfm kin z
   intro A' Q' E' s' kp q
   unfold isType loadHead
   exact wpAny_bind (wpAny_loadPart (kp _ _ o1) (wpAny_pure q))
 ne:=fun h tp dd its n sl kin at1=>by
   obtain ⟨bmB,nw,z⟩:=k.cls
   obtain ⟨bm,ns,nm,qn,bs,hdct,sn,sub,ab,col,dd,k0,k1,k2,k3,k5,mN,o1,_⟩:=qfm kin z
   refine ygc.mpr fun q=>?_
   have e1:C=tp:=Value.ref.inj (beq_iff_eq.mp q)
   subst e1
   have z1:=congrArg Obj.data (Option.some.inj (o1.symm.trans at1))
   cases z1
 ca:=fun {prog w A E Q s} kin ⟨o,h1,h2⟩ q=>by
   obtain ⟨hh,g,d,t,os⟩:=s
   exact Fly.cls_attr (k.look kin) h1 h2 q
def qsN (K:PySem.W.Frag) (C:Addr):List V->Hp->VK->Prop:=fun xs H Q=>∃(e:Addr) (y:V) (b:Bool),xs=[.ref e,y]/\H e=some (XO e C) /\
 ((∃T:String,y = .ty T/\PySem.W.kitOne K (.ref C) (.type T)=some b)\/(∃D:Addr,y = .ref D/\PySem.W.kitOne K (.ref C) (.ref D)=some b) \/
   ∃(tp:Addr) (Ds:List Addr),y = .ref tp/\H tp=some (.tup (Ds.map V.ref))/\PySem.W.kitAny K (.ref C) (Ds.map Value.ref)=some b)/\Q (.bl b) H
def qg3:∀{Ds:List Addr} {us:List Value},qaV (Ds.map V.ref) us->us=Ds.map Value.ref
 | [],_,.nil=>rfl
 | D::Ds,_,.cons r t=>by
   cases (show _=Value.ref D from r)
   rw [qg3 t]
   rfl
def qmG {X:Cx} {K:PySem.W.Frag} {C:Addr} (hK:X.K=K) (k:qpr K C):qcl X (.builtin "isinstance") (qsN K C):=by
 subst hK
 intro pins s σ H xs us Q I r h
 obtain ⟨e,y,b,rfl,he,hy,q⟩:=h
 obtain ⟨u,w',rfl,rx,ry⟩:=qmi r
 cases (show u=Value.ref e from rx)
 have p:∃o,s.heap.get? e=some o/\o.cls = .ref C:=(show qbe X.prog X.w H s.heap e (XO e C) from I.hok e _ he).1
 rcases hy with ⟨T,rfl,z⟩ | ⟨D,rfl,z⟩ | ⟨tp,Ds,rfl,ht,z⟩
 . cases (show w'=Value.type T from ry)
   exact PySem.W.kia_one (k.kit e) I.kIn p z (fun z=>nomatch z) fun tk=>⟨.bl b,H,I.tok _,rfl,q⟩
 . cases (show w'=Value.ref D from ry)
   exact PySem.W.kia_one (k.kit e) I.kIn p z (fun z=>nomatch z) fun tk=>⟨.bl b,H,I.tok _,rfl,q⟩
 . cases (show w'=Value.ref tp from ry)
   obtain ⟨_,its,rv,o,h1,h2,n,h3⟩:=(show qbe X.prog X.w H s.heap tp (.tup (Ds.map V.ref)) from I.hok tp _ ht)
   have hi:=qg3 rv
   subst hi
   obtain ⟨c,dd,dt,sl⟩:=o
   cases (show c=_ from h2)
   cases (show dt=_ from h3)
   exact PySem.W.kia_tup (k.kit e) I.kIn p h1 z (fun z=>nomatch z) fun tk=>⟨.bl b,H,I.tok _,rfl,q⟩
structure qmg (P:Program) (w:World) (K:PySem.W.Frag) (mg:Str->Option Value) (base:Heap) (x:Str) (k:Nat) (ps:List Str) (sp:Sp) (f:Addr) (fd:FuncData):Prop where
 ok:qaN P w K mg base (CX1 P w) k f fd ps sp
 mg:mg x=some (.ref f)
 kp:PySem.W.keepIn K (.ref f)=true
 bd:qdC K fd ps []
def qe1 {X:Cx} {x:Str} {p pos:Pos} {e:Expr} {es:List Expr} {t:TA} {k j:Nat} {ps:List Str} {sp:Sp} {f:Addr} {fd:FuncData} {E:XK} (C:qmg X.prog X.w X.K X.mg X.base x k ps sp f fd) (hr:qcZ j X.A) (hj:k<=j) (hg:Gl X x)
 (hp:qcf (CX1 X.prog X.w) X E) (ha:PA X (e::es) t) (hdb:(x==("__debug__" : Str))=false:=by decide)
 (he:starEach (e::es) X.env=(false,eval e X.env)::starEach es X.env:=by rfl) (hpl:(backTo pos (starEach es X.env)).any (·.1)=false:=by rfl) :
 PE X (.Call (.Name x p) (e::es) [] pos) (qky sp [] E t):=qkU C.ok (hr.mono hj) hg C.mg C.kp C.bd .nil hp ha hdb he hpl
def Fun.okX {P:Program} {w:World} {K:PySem.W.Frag} {mg:Str->Option Value} {base:Heap} {CX:CXT} {x qual:Str} {st:Stmt} {f:Addr} {fd:FuncData} {N ps:List Str} {k:Nat} {sp:Sp} (F:Fun K x qual st f fd) (S:qai N ps (qab st))
   (len:∀vs H Q E,sp vs H Q E->vs.length=ps.length)
   (hbody:∀(cdv:Value) (A:Around) (outer:List Env) (s:Shared) (H:Hp) (vs:List V) (Q:VK) (E:XK),qcZ k (A.deeper (envOfC qual (qab st) s.heap.objs.size f cdv))->sp vs H Q E ->
     ∃t,PSs (qgS CX P w K mg base N qual (qab st) f cdv A outer s H E) (qag st) t/\t { nx:=fun _ H'=>Q .non H',rt:=Q } (qgs N vs) H):qaN P w K mg base CX (k+1) f fd ps sp:=by
 obtain ⟨oc,od,kV,doc,pm,an,cdv,ct,osl,rfl,lk,hcd⟩:=F.ex
 exact qqH lk hcd S len fun A outer s H vs Q E hr hsp=>hbody cdv A outer s H vs Q E hr hsp
def qpX (r:V->V->Hp->VK->XK->Prop):Sp:=fun vs H Q E=>∃x y,vs=[x,y]/\r x y H Q E
section
variable {K:PySem.W.Frag} {C D:Addr} {b:Bool} {T:String} {cd:ClassData}
def qgB:PySem.W.kitOne K (.ref C) (.ref C)=some true:=by
 unfold PySem.W.kitOne
 rw [if_pos (by simp)]
def qgt (m:PySem.W.kitMeta T=true) (e:PySem.W.subIn K (.ref C) (.type T)=some b):PySem.W.kitOne K (.ref C) (.type T)=some b:=by
 unfold PySem.W.kitOne
 rw [if_neg (fun z=>by cases beq_iff_eq.mp z)]
 show (if PySem.W.kitMeta T=true then PySem.W.subIn K (.ref C) (.type T) else none)=some b
 rw [if_pos m,e]
def qbN (q:PySem.W.clsIn K D=some cd) (t:PySem.W.typeIn K (.ref D)=some (.type "type")) (n:(C==D)=false) (e:PySem.W.subIn K (.ref C) (.ref D)=some b):PySem.W.kitOne K (.ref C) (.ref D)=some b:=by
 unfold PySem.W.kitOne
 rw [if_neg (fun z=>by have z:=Value.ref.inj (beq_iff_eq.mp z);rw [z] at n;simp at n)]
 show (if ((PySem.W.clsIn K D).isSome&&PySem.W.typeIn K (.ref D)==some (.type "type"))=true then PySem.W.subIn K (.ref C) (.ref D) else none)=some b
 rw [if_pos (by rw [q,t];rfl),e]
end
section
variable {D:qe7} {σ:St} {H:Hp} {u:TS}
def qmH {c:TT} {C:Addr} {E:XK} {te:TE}:qiX (qpT c (qjR C E te) qjl) u D σ H↔c σ H fun b H1=>if b=true then te σ H1 (fun _ H2=>E (.ref C) none H2) else u D σ H1:=Iff.rfl
end
end L2
namespace Fly
open PySem
section
variable {M:Model} {A:Around} {E:Value->Shared->Prop} {s:Shared} {base:Heap} {env:Env} {outer:List Env} {L e:Addr}
def note_env {env env':Env} (h:env'.frame=env.frame) (x:Value):noteFrame x env'=noteFrame x env:=by
 unfold noteFrame frameOf
 rw [h]
def notedA {T:Addr} {cls fl:Value} {Q:Unit->Shared->Prop}
   (hA:A.frames=some (env::outer)) (hF:s.heap.FunFrames base (env::outer)) (hL:env.frame=some L) (x:At s.heap e T cls fl)
   (k:∀h' T2,(T2=T\/s.heap.get? T2=none)->Left ((env::outer).filterMap (·.frame)) [e,T] s.heap h'->At h' e T2 cls (rawInt L)->Q () { s with heap:=h' }) :
   wpAny M A (noteFrame (.ref e) env) Q E s:=by
 obtain ⟨ne,oe,vs,oT,ts,he,hc,hv,h1,hT,ht,h3⟩:=id x
 subst hc
 unfold noteFrame
 simp only [hL]
 refine wpAny_bind (wpAny_field he hv h1 ?_)
 rw [if_pos (show (Value.ref T != Value.none)=true from by simp)]
 refine wpAny_bind (wpAny_field hT ht h3 ?_)
 by_cases c:(fl==rawInt L)=true
 . rw [if_pos c]
   have c:=beq_iff_eq.mp c
   subst c
   exact wpAny_pure (k s.heap T (.inl rfl) ⟨fun _ _ q _ _=>q,fun b o q _ _=>⟨o.slots,q⟩⟩ x)
 rw [if_neg c]
 refine wpAny_bind (wpAny_setField hT ht (ygb.mp h3).1 ?_)
 generalize gh:s.heap.update T (Obj.mapFields (·.setIfInBounds 3 Value.none))=h2
 have ot:∀b,b≠T->h2.get? b=s.heap.get? b:=fun b hb=>by rw [<-gh];exact ydq _ _ (Ne.symm hb)
 have ntT:∀b o,s.heap.get? b=some o->(∀vs,o.data ≠ .fields vs)->b≠T:=fun b o q nf z=>by
   rw [z,hT] at q
   cases q
   exact nf ts ht
 refine qpQ (s:={ s with heap:=h2 }) hA (hF.of_keeps fun b o q nf=>⟨o,(ot b (ntT b o q nf)).trans q,rfl⟩) hL ((ot e (Ne.symm ne)).trans he) hv (ygb.mp h1).1 fun h' T2 n2 l a=>k h' T2 (.inr ?_) ⟨fun b o q n1 n3=>?_,fun b o q n1 n3=>?_⟩ a
 . cases q:s.heap.get? T2 with
   | none=>rfl
   | some o =>
     by_cases c:T2=T
     . rw [c] at n2
       rw [show ({ s with heap:=h2 }:Shared).heap=h2 from rfl,<-gh,yda _ hT (Obj.isFreed_of_fields (Obj.data_mapFields ht _))] at n2
       cases n2
     . have:=(ot T2 c).trans q
       rw [show h2.get? T2=none from n2] at this
       cases this
 . simp only [ybd,ydj,or_false,not_or] at n3
   exact l.keep b o ((ot b n3.2).trans q) n1 (by simpa using n3.1)
 . simp only [ybd,ydj,or_false,not_or] at n3
   exact l.slot b o ((ot b n3.2).trans q) n1 (by simpa using n3.1)
def qp2 {T:Addr} {cls fl:Value} {f:Option Addr} {Q:Unit->Shared->Prop} (x:At s.heap e T cls fl) (k:∀h' fl',Left [] [T] s.heap h'->At h' e T cls fl'->Q () { s with heap:=h' }) :
   wpAny M A (setFlight (.ref e) f) Q E s:=by
 obtain ⟨ne,oe,vs,oT,ts,he,hc,hv,h1,hT,ht,h3⟩:=x
 have hz:3<ts.size:=(ygb.mp h3).1
 unfold setFlight
 refine wpAny_bind (wpAny_field he hv h1 ?_)
 rw [if_pos (show (Value.ref T != Value.none)=true from by simp)]
 refine wpAny_setField hT ht hz (k _ (f.elim .none fun f=>rawInt f) ⟨fun b o q _ n=>?_,fun b _ _ z=>absurd z (by simp)⟩ ?_)
 . rw [ydq _ _ (fun z=>n (by rw [<-z];exact .head _))]
   exact q
 . refine ⟨ne,oe,vs,_,_,?_,hc,hv,h1,yda _ hT (Obj.isFreed_of_fields (Obj.data_mapFields ht _)),Obj.data_mapFields ht _,by simp [hz]⟩
   rw [ydq _ _ ne]
   exact he
def passes {α:Type} {T:Addr} {cls fl:Value} {what:String} {Q:α->Shared->Prop} (x:At s.heap e T cls fl) (k:∀h' fl',Left [] [T] s.heap h'->At h' e T cls fl'->E (.ref e) { s with heap:=h' }) :
   wpAny M A (passOn what (.ref e) env:Sem α) Q E s:=by
 obtain ⟨ne,oe,vs,oT,ts,he,hc,hv,h1,hT,ht,h3⟩:=id x
 unfold passOn
 refine wpAny_bind (wpAny_field he hv h1 ?_)
 rw [if_neg (show ¬((Value.ref T==Value.none)=true) from by simp)]
 exact wpAny_bind (qp2 x fun h' fl' l a=>wpAny_throw (k h' fl' l a))
end
end Fly
namespace L2
open PySem PySem.Spec PyProof.Rows
section
variable {X:Cx} {pins:List (Addr×Obj)} {σ:St} {H H':Hp} {s s':Shared}
structure Nw (X:Cx) (pins:List (Addr×Obj)) (H:Hp) (b:Addr):Prop where
 old:X.s₀.heap.get? b=none\/b∈X.ex
 loc:b≠X.env.locals
 cel:∀x c,X.env.cells.lookup x=some c->c≠b
 pin:∀p∈X.pn++pins,p.1≠b
 frm:b∉frs X.stack
 non:H b=none
def Inv.nw (I:Inv X pins σ H s) {b:Addr} (e:s.heap.get? b=none) (n:H' b=none):Nw X pins H' b:=by
 refine ⟨?_,fun z=>?_,fun x c q z=>?_,fun p hp z=>?_,fun z=>?_,n⟩
 . by_cases c:b∈X.ex
   . exact .inr c
   . cases q:X.s₀.heap.get? b with
     | none=>exact .inl rfl
     | some o =>
       obtain ⟨o',q'⟩:=I.base.there b o q c
       rw [e] at q'
       cases q'
 . obtain ⟨m,⟨o,_,_,ho,_⟩,_⟩:=I.loc
   rw [<-z,e] at ho
   cases ho
 . obtain ⟨v,o,ho,_⟩:=I.cell x c q
   rw [z,e] at ho
   cases ho
 . have:=(I.pin p hp).1
   rw [z,e] at this
   cases this
 . obtain ⟨_,o,ho,_⟩:=I.stack.mem z
   rw [e] at ho
   cases ho
def Inv.flown {ch:List Addr} {h':Heap} {t':Nat} (I:Inv X pins σ H s) (l:Fly.Left (frs X.stack) ch s.heap h') (hc:∀b∈ch,Nw X pins H b):Inv X pins σ H { s with heap:=h',toks:=t' }:=by
 have any:∀b o,s.heap.get? b=some o->b∉ch->∃sl,h'.get? b=some { o with slots:=sl }:=fun b o q n=>by
   by_cases c:b∈frs X.stack
   . exact l.slot b o q c n
   . exact ⟨o.slots,l.keep b o q c n⟩
 have nc:∀b o,X.s₀.heap.get? b=some o->b∉X.ex->b∉ch:=fun b o q n z=>by
   rcases (hc b z).old with w | w
   . rw [q] at w;cases w
   . exact n w
 have nl:X.env.locals∉ch:=fun z=>(hc _ z).loc rfl
 obtain ⟨m,hn,hl⟩:=id I.loc
 have hn':h'.Ns X.env.locals m:=by
   obtain ⟨o,es,ep,ho,hd,r⟩:=hn
   obtain ⟨sl,q⟩:=any _ o ho nl
   exact ⟨_,es,ep,q,hd,r⟩
 have cell':∀{c:Addr} {v:Option Value} {x:Str},X.env.cells.lookup x=some c->s.heap.IsCell c v->h'.IsCell c v:=fun {c v x} q z=>by
   obtain ⟨o,ho,hd⟩:=z
   obtain ⟨sl,q'⟩:=any c o ho fun w=>(hc c w).cel x c q rfl
   exact ⟨_,q',hd⟩
 refine ⟨I.ok,I.os,I.bare,⟨fun b o q n1 n2 n3=>?_,fun b o q n1 n2 n3=>?_,I.base.free,fun b o q n3=>?_,I.base.tups,I.base.frzs,I.base.tbls⟩,⟨m,hn',fun i x v e1 e2 e3=>?_⟩,fun x c q=>?_,I.free,I.freeC,fun p hp=>?_,I.hok.left l I.stkFree fun b z=>(hc b z).non,I.len⟩
 . refine l.keep b o (I.base.keep b o q n1 n2 n3) (fun z=>?_) (nc b o q n3)
   rcases ybd.mp (I.stkSub b z) with w | w
   . have l1:=ydf q
     rw [w] at l1
     exact absurd l1 (ycg.mpr I.ok.above)
   . exact n2 w
 . obtain ⟨sl,q1⟩:=I.base.slot b o q n1 n2 n3
   obtain ⟨sl2,q2⟩:=any b _ q1 (nc b o q n3)
   exact ⟨sl2,q2⟩
 . obtain ⟨o',q1⟩:=I.base.there b o q n3
   obtain ⟨sl2,q2⟩:=any b _ q1 (nc b o q n3)
   exact ⟨_,q2⟩
 . obtain ⟨u,r,lk⟩:=hl i x v e1 e2 e3
   refine ⟨u,r,?_⟩
   rcases lk with z | ⟨k1,c,k2,k3⟩
   . exact .inl z
   . exact .inr ⟨k1,c,k2,cell' k2 k3⟩
 . obtain ⟨v,z⟩:=I.cell x c q
   exact ⟨v,cell' q z⟩
 . obtain ⟨z1,z2,z3,z4,z5⟩:=I.pin p hp
   refine ⟨l.keep _ _ z1 (fun w=>?_) fun w=>(hc _ w).pin p hp rfl,z2,z3,z4,z5⟩
   rcases ybd.mp (I.stkSub _ w) with q | q
   . exact z3 q
   . exact z4 q
def Inv.told {e:Addr} {o:HO} (I:Inv X pins σ H s) (n:Nw X pins H e) (ok:qbe X.prog X.w (upd H e o) s.heap e o):Inv X pins σ (upd H e o) s:=by
 have ne:∀b u,H b=some u->b≠e:=fun b u q z=>by rw [z,n.non] at q;cases q
 refine ⟨I.ok,I.os,I.bare,⟨I.base.keep,I.base.slot,fun b u q n1 n3=>?_,I.base.there,fun b xs q=>?_,fun b u v q=>?_,fun b ps q=>?_⟩,I.loc,I.cell,by rw [qap (Ne.symm n.loc)];exact I.free,fun x c q=>by rw [qap (n.cel x c q)];exact I.freeC x c q,fun p hp=>?_,fun b u q=>?_,I.len⟩
 . have:b≠e:=fun z=>by
     rcases n.old with w | w
     . rw [<-z,q] at w;cases w
     . exact n3 (z▸w)
   rw [qap this]
   exact I.base.free b u q n1 n3
 . have z:=I.base.tups b xs q
   rw [qap (ne b _ z)]
   exact z
 . have z:=I.base.frzs b u v q
   rw [qap (ne b _ z)]
   exact z
 . obtain ⟨qgT,z⟩:=I.base.tbls b ps q
   exact ⟨qgT,by rw [qap (ne b _ z)];exact z⟩
 . obtain ⟨z1,z2,z3⟩:=I.pin p hp
   exact ⟨z1,by rw [qap (n.pin p hp)];exact z2,z3⟩
 . by_cases c:b=e
   . subst c
     rw [qaj] at q
     cases q
     exact ok
   . rw [qap c] at q
     refine (I.hok b u q).stay (fun _ _ _ q=>q) (fun c2 q2=>?_) fun c2 xs q2=>?_
     . rw [qap (ne c2 _ q2)];exact q2
     . rw [qap (ne c2 _ q2)];exact q2
def Thr (X:Cx) (E:XK) (x:Value) (s':Shared):Prop:=∃(p1:List (Addr×Obj)) (σ1:St) (H':Hp) (e T C:Addr) (fl:Value),x = .ref e/\Inv X p1 σ1 H' s'/\Nw X p1 H' e/\Nw X p1 H' T/\Fly.At s'.heap e T (.ref C) fl/\E (.ref C) none H'
def qfx (X:Cx) (E:XK):Prop:=∀x s',Thr X E x s'->X.xe x s'
def qfx.passes {E:XK} (t:qfx X E):qcf (CX1 X.prog X.w) X E:=fun pins σ H s x s' I ⟨e,T,C,H',ex,os,bare,U,hok,n1,n2,n3,n4,a,q⟩ =>
 t x s' ⟨pins,σ,H',e,T,C,.none,ex,I.call' os U hok bare (ch:=[]) (fun b z=>absurd z (by simp)),I.nw n1 n3,I.nw n2 n4,a,q⟩
def qgP {P:Program} {w:World} {K:PySem.W.Frag} {mg:Str->Option Value} {base:Heap} {N:List Str} {qual:Str} {scope:Scope} {f:Addr} {cd:Value} {A:Around} {outer:List Env} {s0:Shared} {H0:Hp} {E:XK} :
   qfx (qgS (CX1 P w) P w K mg base N qual scope f cd A outer s0 H0 E) E:=by
 rintro x s' ⟨p1,σ1,H',e,T,C,fl,rfl,J,ne,nT,a,q⟩
 have old:∀b,Nw (qgS (CX1 P w) P w K mg base N qual scope f cd A outer s0 H0 E) p1 H' b->s0.heap.get? b=none:=fun b z=>by
   rcases z.old with w | w
   . exact w
   . exact absurd (show b∈[] from w) (by simp)
 show wpAny _ _ (leaving _ _) _ _ s'
 unfold leaving
 refine wpAny_bind (Fly.notedA (base:=base) J.ok.frames J.stack rfl a fun h2 T2 n2 l2 a2=>?_)
 refine Fly.lands (s:={ s' with heap:=h2 }) a2 fun h3 l3 a3=>?_
 have nT2:Nw (qgS (CX1 P w) P w K mg base N qual scope f cd A outer s0 H0 E) p1 H' T2:=by
   rcases n2 with z | z
   . rw [z];exact nT
   . exact J.nw z (J.hok.none_of z)
 have cc:∀b∈[e,T,T2],Nw (qgS (CX1 P w) P w K mg base N qual scope f cd A outer s0 H0 E) p1 H' b:=fun b z=>by
   simp only [ybd,ydj,or_false] at z
   rcases z with rfl | rfl | rfl
   . exact ne
   . exact nT
   . exact nT2
 have l23:Fly.Left (frs (qgS (CX1 P w) P w K mg base N qual scope f cd A outer s0 H0 E).stack) [e,T,T2] s'.heap h3:=(l2.mono (fun _ z=>z) (fun b z=>by simp at z ⊢;rcases z with z | z<;>simp [z])).trans (l3.mono (fun _ z=>absurd z (by simp)) (fun b z=>by simp at z ⊢;simp [z]))
 have J3:=J.flown (t':=s'.toks) l23 cc
 exact ⟨e,T2,C,H',rfl,J3.os,J3.bare,J3.base,J3.hok,old e ne,old T2 nT2,ne.non,nT2.non,a3,q⟩
end
section
variable {X:Cx}
end
end L2
namespace L2
open PySem PySem.Spec PyProof.Rows
section
variable {prog:Program} {w:World} {A:Around} {R:Result->Shared->Prop} {s:Shared}
def qgz {elt target iter:Expr} {ifs:List Expr} {scope:Scope} {pos:Pos} {it acc:Value} {env:Env} (I:Nat->Shared->Prop)
   (turn:∀n s,I n s->wpAny (model prog w) A (pyNext it) (fun r s₁=>match r with
     | none=>R (.ok .next) s₁
     | some v=>wpAny (model prog w) A (letOwnedTupleGo target it v) (fun _ s₁'=>wpAny (model prog w) A (assign target env v) (fun _ s₂ =>
         wpAny (model prog w) A (forIn ifs true fun c r=>if r=true then do let ok <-isTrue c env (eval c env);pure (ForInStep.yield ok) else pure (ForInStep.yield r)) (fun ok s₃ =>
           if ok=true then wpAny (model prog w) A (eval elt env) (fun x s₄ =>
             wpAny (model prog w) A (call (.builtin "list.append") [acc,x]) (fun _ s₅=>∃m,m<n/\I m s₅) (fun _ _=>False) s₄) (notedBy (model prog w) A env fun e s'=>R (.error e) s') s₃
           else ∃m,m<n/\I m s₃) (fun _ _=>False) s₂) (fun _ _=>False) s₁') (fun _ _=>False) s₁) (fun _ _=>False) s)
   (n:Nat) (h:I n s):codeAny (model prog w) A (.compLoop (.ListComp elt [⟨target,iter,ifs,0⟩] scope pos) 0 it acc env) R s:=by
 refine codeAny_loop rfl I (fun n s hI=>?_) n h
 show wpAny _ A ((compTurn (.ListComp elt [⟨target,iter,ifs,0⟩] scope pos) 0 it acc env).onRaise (fun x=>do noteFrame x env;theTreesLotGoes x)) _ _ s
 refine wpAny_noted ?_
 rw [compTurn_list]
 refine wpAny_bind (wpAny_standAt (wpAny_bind (wpAny_mono (turn n s hI) (fun r s₁ h₁=>?_) fun _ _ h'=>h'.elim)))
 cases r with
 | none=>exact wpAny_pure h₁
 | some v =>
   refine wpAny_bind (wpAny_mono h₁ (fun _ s₁' h₁'=>?_) fun _ _ h'=>h'.elim)
   refine wpAny_bind (wpAny_mono h₁' (fun _ s₂ h₂=>wpAny_bind (wpAny_mono h₂ (fun ok s₃ h₃=>?_) fun _ _ h'=>h'.elim)) fun _ _ h'=>h'.elim)
   cases ok with
   | false=>exact wpAny_pure ⟨rfl,h₃⟩
   | true =>
     exact wpAny_bind (wpAny_bind (wpAny_mono h₃ (fun x s₄ h₄=>wpAny_bind (wpAny_mono h₄ (fun _ s₅ h₅=>wpAny_pure (wpAny_pure ⟨rfl,h₅⟩)) fun _ _ h'=>h'.elim)) fun _ _ h'=>h'))
end
section
variable {X:Cx} {tg iter elt:Expr} {ifs:List Expr} {scope:Scope} {pos:Pos} {N:List Str} {nt:Nat} {caps:List Nat} {wi:TI} {g:TG} {tt:TT} {te:TE} {cl:List (Str×Addr)}
def qmM {E0:XK} {pins ps:List (Addr×Obj)} {σ:St} {H:Hp} {s s8:Shared} {fp:List Addr} {C:Addr} {x:Value} {RE:Value->Shared->Prop} (tk:qfx X E0) (stk:X.stack=X.env::X.outer) (hfr:X.env.frame=some X.env.locals) (hC:s.heap.objs.size<C)
   (I:Inv X pins σ H s) (hf:∀b∈fp,qhL X pins H b) (fpin:∀b∈fp,∃o,(b,o)∈ps) (th:Thr ((blk X N scope cl C s H fp).pinned ps) E0 x s8)
   (hRE:∀s',(∃m,s'.heap.Ns C m/\∀h',Heap.SameBut C s'.heap h'->∀cenv:Env,cenv.locals=C->wpAny (model X.prog X.w) X.A (passOn "comprehension.variables-let-go" x cenv:Sem Value) (fun _ _=>False) X.xe { s' with heap:=h' })->RE x s') :
   notedBy (model X.prog X.w) X.A (compEnvC scope cl C X.env) RE x s8:=by
 obtain ⟨p1,σ1,H',e,T,C',fl,rfl,J,ne,nT,a,q⟩:=th
 show wpAny _ _ (noteFrame _ _) _ _ _
 rw [Fly.note_env (env:=X.env) (env':=compEnvC scope cl C X.env) rfl]
 refine Fly.notedA (base:=X.base) (L:=X.env.locals) (show X.A.frames=_ from stk▸I.ok.frames) (show s8.heap.FunFrames X.base (X.env::X.outer) from stk▸J.stack) hfr a fun h2 T2 n2 l2 a2=>hRE _ ?_
 have nT2:Nw ((blk X N scope cl C s H fp).pinned ps) p1 H' T2:=by
   rcases n2 with z | z
   . rw [z];exact nT
   . exact J.nw z (J.hok.none_of z)
 have cc:∀b∈[e,T,T2],Nw ((blk X N scope cl C s H fp).pinned ps) p1 H' b:=fun b z=>by
   simp only [ybd,ydj,or_false] at z
   rcases z with rfl | rfl | rfl
   . exact ne
   . exact nT
   . exact nT2
 have l2:Fly.Left (frs X.stack) [e,T,T2] s8.heap h2:=by
   rw [stk]
   exact l2.mono (fun _ z=>z) fun b z=>by simp at z ⊢;rcases z with z | z<;>simp [z]
 have J2:=J.flown (t':=s8.toks) l2 cc
 have fresh:∀b,Nw ((blk X N scope cl C s H fp).pinned ps) p1 H' b->s.heap.get? b=none:=fun b z=>by
   rcases z.old with w | w
   . exact w
   . obtain ⟨o,ho⟩:=fpin b w
     exact absurd rfl (z.pin (b,o) (yas _ (yef _ ho)))
 obtain ⟨m,hn,_⟩:=J2.loc
 refine ⟨m,hn,fun h' sb cenv _=>?_⟩
 have ek:∀b,b≠C->h'.get? b=h2.get? b:=fun b hb=>sb.2 b hb
 have a3:Fly.At h' e T2 (.ref C') (rawInt X.env.locals):=by
   obtain ⟨z0,oe,vs,oT,ts,z1,z2,z3,z4,z5,z6⟩:=a2
   exact ⟨z0,oe,vs,oT,ts,(ek e ne.loc).trans z1,z2,z3,z4,(ek T2 nT2.loc).trans z5,z6⟩
 refine Fly.passes (s:={ s8 with heap:=h' }) a3 fun h3 fl3 l3 a4=>tk _ _ ?_
 have IY:=J2.unpin1
 have hCn:H' C=none:=IY.free
 have hok:HOk X.prog X.w H' h':=fun b u q=>by
   have nC:∀c u',H' c=some u'->c≠C:=fun c u' q' z=>by rw [z,hCn] at q';cases q'
   refine (IY.hok b u q).stay (fun c w' hc q'=>(ek c ?_).trans q') (fun _ q'=>q') fun _ _ q'=>q'
   rcases hc with z | z
   . rw [z];exact nC b u q
   . exact nC c _ z
 have lt:∀b o,s.heap.get? b=some o->b≠C:=fun b o q=>ydh (ybl (ydf q) hC)
 have u:Un (frs X.stack) fp H H' s.heap h':=⟨fun b o q nn hb hx=>(ek b (lt b o q)).trans (IY.base.keep b o q nn hb hx),fun b o q nn hb hx=>by
     obtain ⟨sl,q'⟩:=IY.base.slot b o q nn hb hx
     exact ⟨sl,(ek b (lt b o q)).trans q'⟩,IY.base.free,fun b o q hx=>by
     obtain ⟨o',q'⟩:=IY.base.there b o q hx
     exact ⟨o',(ek b (lt b o q)).trans q'⟩,IY.base.tups,IY.base.frzs,IY.base.tbls⟩
 have I1:Inv X pins σ H' { s8 with heap:=h' }:=I.call' (s':={ s8 with heap:=h' }) (ch:=fp) IY.os u hok IY.bare fun b hb=>⟨(hf b hb).2.2.2.1,(hf b hb).2.1,(hf b hb).2.2.2.2.1,(hf b hb).2.2.2.2.2⟩
 have w1:Nw X pins H' e:=I.nw (fresh e ne) ne.non
 have w2:Nw X pins H' T2:=I.nw (fresh T2 nT2) nT2.non
 exact ⟨pins,σ,H',e,T2,C',fl3,rfl,I1.flown (t':=s8.toks) (l3.mono (fun _ z=>absurd z (by simp)) fun _ z=>z) fun b z=>by rw [ydu.mp z];exact w2,w1,w2,a4,q⟩
def qk3 {E0:XK} {pins:List (Addr×Obj)} {σ:St} {H:Hp} {s:Shared} {it:Addr} {fp:List Addr} {tn:Nat->Heap->Prop} {J:It} {RR:Value->Addr->Result->Shared->Prop} {E:Value->Shared->Prop}
   (ok:qfJ X N nt caps scope) (hc:X.calm=true) (h1:∀n c,cl.lookup n=some c->X.env.cells.lookup n=some c) (h2:∀n,(n,NameKind.free)∈scope.names->∃c,cl.lookup n=some c)
   (hg:∀cl C s H fp,PG (blk X N scope cl C s H fp) tg g) (hgk:qh8 nt g) (ht:∀cl C s H fp,PTs (blk X N scope cl C s H fp) ifs tt) (he:∀cl C s H fp ps xe,qfx (((blk X N scope cl C s H fp).pinned ps).wish xe) E0->PE (((blk X N scope cl C s H fp).pinned ps).wish xe) elt te) (tk:qfx X E0) (stk:X.stack=X.env::X.outer) (hfr:X.env.frame=some X.env.locals)
   (I:Inv X pins σ H s) (T:qpN X.prog X.w X.K tg J fp it tn) (st:tn 0 s.heap) (hf:∀b∈fp,qhL X pins H b)
   (W:Nat->Nat->List V->Hp->Prop) (Z:List V->Hp->Prop) (m0:Nat) (w0:W 0 m0 [] H)
   (turn:∀i m ys H2,W i m ys H2->(J.stop i H2/\Z ys H2) \/
     (J.go i H2/\ys.length<sizeLine/\∀x H3,J.yld i H2 x H3->g x (qbr nt caps σ) H3 fun σ4 H4=>tt σ4 H4 fun b H5 =>
       if b=true then te σ4 H5 fun y H6=>∃m',m'<m/\W (i+1) m' (ys++[y]) H6 else ∃m',m'<m/\W (i+1) m' ys H5))
   (hRR:∀(C:Addr) (s':Shared) (ys:List V) (its:List Value) (n:Nat) (H':Hp),s.heap.objs.size<C->qaV ys its->Inv (blk X N scope cl C s H fp) [] (qbr nt caps σ) H' s' ->
     s'.heap.get? s.heap.objs.size=some { cls := .type "list",data := .seq its.toArray n }->H' s.heap.objs.size=none->Z ys H'->RR (.ref s.heap.objs.size) C (.ok .next) s')
   (hRE:∀(C:Addr) (x:Value) (s':Shared),(∃m,s'.heap.Ns C m/\∀h',Heap.SameBut C s'.heap h'->∀cenv:Env,cenv.locals=C->wpAny (model X.prog X.w) X.A (passOn "comprehension.variables-let-go" x cenv:Sem Value) (fun _ _=>False) X.xe { s' with heap:=h' })->RR (.ref s.heap.objs.size) C (.error x) s') :
   wpAny (model X.prog X.w) X.A (newList []) (fun acc s₃=>wpAny (model X.prog X.w) X.A (newFunctionEnv scope X.env.globals cl [] X.env.qual none .none (some X.env)) (fun cenv s₄ =>
     codeAny (model X.prog X.w) X.A (.compStart (.ListComp elt [⟨tg,iter,ifs,0⟩] scope pos) 0 (.ref it) acc { cenv with scope:=relabel scope X.env }) (RR acc cenv.locals) s₄) E s₃) E s:=by
 refine wpAny_newObj_type (wpAny_newFunctionEnv ok.cell (by intro y hy;simp at hy) (fun h₁ hns₁ hsb₁=>?_) ok.kind)
 dsimp only at hns₁ hsb₁ ⊢
 generalize hG:s.heap.push { cls := .type "list",dict:=none,data := .seq ([]:List Value).toArray }=G at hns₁ hsb₁ ⊢
 have hC:G.objs.size=s.heap.objs.size+1:=by rw [<-hG,ydg]
 have hDC:s.heap.objs.size≠G.objs.size:=by rw [hC];exact ydh (yck _)
 have hlt:s.heap.objs.size<G.objs.size:=by rw [hC];exact yck _
 have old:∀b o,s.heap.get? b=some o->h₁.get? b=some o:=fun b o e =>
   hsb₁.extBut b o (ydh (ybl (ydf e) hlt)) (yde _ (hG▸yde _ e))
 have hacc:h₁.get? s.heap.objs.size=some { cls := .type "list",data := .seq ([]:List Value).toArray 0 }:=hsb₁.extBut _ _ hDC (yde _ (hG▸ydd _ rfl))
 have fpD:∀b∈fp,b<s.heap.objs.size:=fun b hb=>by
   obtain ⟨o,e,_⟩:=T.obj _ _ st b hb
   exact ydf e
 have celt:∀n c,cl.lookup n=some c->c<s.heap.objs.size:=fun n c e=>by
   obtain ⟨v,q⟩:=I.cell n c (h1 n c e)
   exact q.lt
 have YOk:(blk X N scope cl G.objs.size s H fp).Ok:=by
   refine ⟨I.ok.mod,ok.kind,I.ok.glob,I.ok.blt,yce hlt,fun x y c e e'=>I.ok.inj x y c (h1 x c e) (h1 y c e'),fun x hx=>?_,fun x c hx _=>(nomatch hx),I.ok.hd,I.ok.frames,.inl rfl,
     fun b hb=>⟨ydh (ybl (fpD b hb) hlt),fun x c e z=>?_⟩,fun b o e=>I.bs b o e,ycf I.ok.bsz I.sz,fun b o e hb=>?_,fun b hb hz=>?_,I.stack,I.stkFree⟩
   . rcases hx with hx | hx
     . exact h2 x (qb7 ok.cell hx (.inl rfl))
     . exact h2 x (qb7 ok.cell hx (.inr rfl))
   . exact (hf b hb).2.2.2.2.1 x c (h1 x c e) z
   . rcases (hf b hb).2.2.2.1 with z | z
     . exact I.ok.noex b o e z
     . exact absurd (yae (ydf e) (ycf I.ok.bsz z)) (ydz _)
   . rcases ybd.mp (I.stkSub b hz) with z | z
     . exact (hf b hb).2.1 z
     . exact (hf b hb).2.2.1 z
 have lenb:(qbr nt caps σ).length=N.length:=by rw [ok.len];simp [qbr]
 have IY:Inv (blk X N scope cl G.objs.size s H fp) [] (qbr nt caps σ) H { s with heap:=h₁,toks:=s.toks+([]:List (Str×Value)).length }:=by
   refine ⟨YOk,rfl,I.bare,Un.kept old,⟨_,hns₁,fun i x v e1 e2 e3=>?_⟩,fun x c e=>?_,I.hok.fresh (yce hlt),fun x c e=>I.freeC x c (h1 x c e),fun p hp=>(nomatch hp),I.hok.kept old,lenb⟩
   . have hi:nt<=i:=by
       rcases yag i nt with z | z
       . exfalso
         unfold qbr at e2
         rw [yep (by simpa using z),yeo] at e2
         split at e2<;>cases e2
       . exact z
     unfold qbr at e2
     rw [yen (by simpa using hi),yeq,ydr] at e2
     cases ej:caps[i-nt]? with
     | none=>rw [ej] at e2;cases e2
     | some j =>
       rw [ej] at e2
       have e2':(σ[j]?).join=some v:=by simpa using e2
       have e2'':σ[j]?=some (some v):=by
         cases q:σ[j]? with
         | none=>rw [q] at e2';cases e2'
         | some z=>rw [q] at e2';simp at e2';rw [e2']
       obtain ⟨y,y1,y2,y3,y4⟩:=ok.cap _ _ ej
       have:nt+(i-nt)=i:=by omega
       rw [this] at y2
       have e1':N[i]?=some x:=e1
       rw [e1'] at y2
       cases y2
       obtain ⟨m,hn,hl⟩:=I.loc
       have kx:=ok.free x y3
       have vx:Vis X.env.scope x:=by
         rcases kx with z | z
         . exact .inr (.inl z)
         . exact .inr (.inr z)
       obtain ⟨u,r,l⟩:=hl j x v y1 e2'' vx
       refine ⟨u,r,.inr ⟨?_,?_⟩⟩
       . rcases e3 with z | z | z
         . exact absurd z (qd6 y4)
         . exact .inl z
         . exact .inr z
       . obtain ⟨c,hcl⟩:=h2 x y3
         refine ⟨c,hcl,?_⟩
         rcases l with ⟨k,_⟩ | ⟨_,c',hc',o,ho,hd⟩
         . rcases kx with z | z<;>(rw [z] at k;cases k)
         . have:c=c':=Option.some.inj ((h1 x c hcl).symm.trans hc')
           subst this
           exact ⟨o,old c o ho,hd⟩
   . obtain ⟨v,o,ho,hd⟩:=I.cell x c (h1 x c e)
     exact ⟨v,o,old c o ho,hd⟩
 -- the loop
 have stat:∀{pn:List (Addr×Obj)} {H':Hp},(∀b∈fp,H' b=none)->(∀p∈pn,s.heap.objs.size<=p.1)->∀b∈fp,qhL (blk X N scope cl G.objs.size s H fp) pn H' b:=fun {pn H'} hn hpn b hb =>
   ⟨hn b hb,ydh (ybl (fpD b hb) hlt),fun hz=>(YOk.exfs b hb hz).elim,.inl hb,fun x c e z=>(hf b hb).2.2.2.2.1 x c (h1 x c e) z,fun p hp z=>by
     have hp':p∈pn:=by simpa [blk] using hp
     have:=hpn p hp'
     rw [z] at this
     exact absurd (yae (fpD b hb) this) (ydz _)⟩
 have hDf:s.heap.objs.size∉fp:=fun hm=>ydz _ (fpD _ hm)
 have hDs:s.heap.objs.size∉frs X.stack:=fun hm=>by
   rcases ybd.mp (I.stkSub _ hm) with z | z
   . exact absurd I.lt (by rw [<-z];exact ydz _)
   . exact I.nofs (yax _) z
 have loop:∀s₃:Shared,s₃={ s with heap:=h₁,toks:=s.toks+([]:List (Str×Value)).length } ->
     codeAny (model X.prog X.w) X.A (.compLoop (.ListComp elt [⟨tg,iter,ifs,0⟩] scope pos) 0 (.ref it) (.ref s.heap.objs.size) (compEnvC scope cl G.objs.size X.env)) (RR (.ref s.heap.objs.size) G.objs.size) s₃:=by
   rintro s₃ rfl
   refine qgz (fun n s'=>∃i ys its k H',Inv (blk X N scope cl G.objs.size s H fp) [] (qbr nt caps σ) H' s'/\tn i s'.heap/\(∀b∈fp,H' b=none)/\qaV ys its /\
     s'.heap.get? s.heap.objs.size=some { cls := .type "list",data := .seq its.toArray k }/\H' s.heap.objs.size=none/\ys.length<=sizeLine/\W i n ys H') ?_ m0
     ⟨0,[],[],0,H,IY,T.keep _ _ _ st fun b hb o e=>old b o e,fun b hb=>(hf b hb).1,.nil,hacc,I.hok.fresh (yax _),ych _,w0⟩
   rintro n s3 ⟨i,ys,its,k,H3,I3,st3,fr3,v3,a3,n3,z3,w3⟩
   have I3p:Inv (blk X N scope cl G.objs.size s H fp) [(s.heap.objs.size,{ cls := .type "list",data := .seq its.toArray k })] (qbr nt caps σ) H3 s3:=I3.pins_of fun p hp=>by
     have e:p=(s.heap.objs.size,{ cls := .type "list",data := .seq its.toArray k }):=by simpa using hp
     subst e
     exact ⟨a3,n3,hDC,hDs,fun v z=>by cases z⟩
   have pn3:∀p∈[(s.heap.objs.size,({ cls := .type "list",data := .seq its.toArray k }:Obj))],s.heap.objs.size<=p.1:=fun p hp=>by
     have e:p=(s.heap.objs.size,{ cls := .type "list",data := .seq its.toArray k }):=by simpa using hp
     subst e
     exact yax _
   rcases turn i n ys H3 w3 with ⟨stop,zz⟩ | ⟨go,hlen,step⟩
   . refine thn (T.done (blk X N scope cl G.objs.size s H fp) rfl rfl rfl hc i _ s3 _ H3 _ I3p (stat fr3 pn3) st3 stop) fun r s4 ⟨hr,I4⟩=>?_
     subst hr
     have a4:=I4.pin (s.heap.objs.size,{ cls := .type "list",data := .seq its.toArray k }) (yef _ (by simp))
     exact hRR _ s4 ys its k H3 hlt v3 (I4.pins_of fun _ hp=>nomatch hp) a4.1 n3 zz
   . refine thn (T.item (blk X N scope cl G.objs.size s H fp) rfl rfl rfl hc i _ s3 _ H3 _ I3p (stat fr3 pn3) st3 go) fun r s4 ⟨u,hr,h4⟩=>?_
     subst hr
     refine thn h4 fun _ s5 ⟨x,H5,I5,r5,y5,st5,fr5⟩=>?_
     have I5':=I5.pinned (stat fr5 pn3) (T.obj _ _ st5)
     refine thn (hg _ _ _ _ _ _ s5 _ H5 x u _ I5' r5 (hgk _ _ _ _ (step x H5 y5))) fun _ s6 ⟨σ6,H6,I6,kp6,q6⟩=>?_
     refine thn (ht _ _ _ _ _ _ s6 σ6 H6 _ I6 q6) fun b s7 ⟨H7,I7,q7⟩=>?_
     have qpY:∀{H8:Hp} {s8:Shared},Inv (blk X N scope cl G.objs.size s H fp) ([(s.heap.objs.size,({ cls := .type "list",data := .seq its.toArray k }:Obj))]++qdy fp s5.heap) σ6 H8 s8 ->
         Inv (blk X N scope cl G.objs.size s H fp) [] (qbr nt caps σ) H8 s8/\tn (i+1) s8.heap/\(∀b∈fp,H8 b=none)/\s8.heap.get? s.heap.objs.size=some { cls := .type "list",data := .seq its.toArray k }/\H8 s.heap.objs.size=none:=fun {H8 s8} I8=>by
       have a8:=I8.pin (s.heap.objs.size,{ cls := .type "list",data := .seq its.toArray k }) (yef _ (yas _ (by simp)))
       refine ⟨(I8.pins_of (pins':=[]) fun _ hp=>absurd hp (by simp)).weak (by rw [lenb,I8.len];rfl) kp6,T.keep _ _ _ st5 fun b hb o e=>(I8.pin (b,o) (yef _ (yef _ (qbA hb e)))).1,fun b hb=>?_,a8.1,a8.2.1⟩
       obtain ⟨o,e,d⟩:=T.obj _ _ st5 b hb
       exact (I8.pin (b,o) (yef _ (yef _ (qbA hb e)))).2.1
     cases b with
     | false =>
       rw [if_neg (by intro z;cases z)] at q7 ⊢
       obtain ⟨m',hm,w7⟩:=q7
       obtain ⟨b1,b2,b3,b4,b5⟩:=qpY I7
       exact ⟨m',hm,i+1,ys,its,k,H7,b1,b2,b3,v3,b4,b5,z3,w7⟩
     | true =>
       rw [if_pos rfl] at q7 ⊢
       have fpin:∀b∈fp,∃o,(b,o)∈([(s.heap.objs.size,({ cls := .type "list",data := .seq its.toArray k }:Obj))]++qdy fp s5.heap):=fun b hb=>by
         obtain ⟨o,e,_⟩:=T.obj _ _ st5 b hb
         exact ⟨o,yef _ (qbA hb e)⟩
       refine wpAny_mono (he cl G.objs.size s H fp ([(s.heap.objs.size,({ cls := .type "list",data := .seq its.toArray k }:Obj))]++qdy fp s5.heap) (Thr ((blk X N scope cl G.objs.size s H fp).pinned ([(s.heap.objs.size,({ cls := .type "list",data := .seq its.toArray k }:Obj))]++qdy fp s5.heap)) E0) (fun x s' ⟨p1,σ1,H',e,T,C',fl,ex,J,n1,n2,a,q⟩=>⟨p1,σ1,H',e,T,C',fl,ex,J.unwish,⟨n1.old,n1.loc,n1.cel,n1.pin,n1.frm,n1.non⟩,⟨n2.old,n2.loc,n2.cel,n2.pin,n2.frm,n2.non⟩,a,q⟩) [] s7 σ6 H7 _ (I7.pin1.wish _) q7) (fun u8 s8 ⟨y,H8,I8,r8,m',hm,w8⟩=>?_) fun x8 s8 th8=>qmM tk stk hfr hlt I hf fpin th8 (hRE _ _)
       have I8:=I8.unwish.unpin1
       obtain ⟨b1,b2,b3,b4,b5⟩:=qpY I8
       have hl:=v3.length
       refine call_meets F.slot_list_append ⟨_,b4,rfl⟩ F.entry_list_append (F.args_list_append_2 _ _) (PySem.list_append s.heap.objs.size its.toArray k u8 (by rw [yeu];omega)) ⟨b4,?_⟩
       have q:=PySem.IsL.update (show PySem.IsL s8.heap s.heap.objs.size its.toArray k from b4) (fun x=>x.push u8)
       have eq:its.toArray.push u8=(its++[u8]).toArray:=by simp
       rw [eq] at q
       have keep:∀b' o,b'≠s.heap.objs.size->s8.heap.get? b'=some o->(s8.heap.update s.heap.objs.size (Obj.mapSeq fun x=>x.push u8)).get? b'=some o:=fun b' o hb hu =>
         (ydq s8.heap (Obj.mapSeq fun x=>x.push u8) (Ne.symm hb)).trans hu
       refine ⟨m',hm,i+1,ys++[y],its++[u8],_,H8,b1.turned (t':=s8.toks) keep b5 hDC (.inr (yax _)) (fun x c e z=>?_) (fun p hp=>by simp [blk] at hp),T.keep _ _ _ b2 fun b hb o e=>keep b o (fun z=>hDf (z▸hb)) e,b3,
         v3.append (.cons r8 .nil),q,b5,?_,w8⟩
       . exact absurd (celt x c e) (by rw [z];exact ydz _)
       . rw [yby,yex];omega
 exact codeAny_compStart_list (loop _ rfl) (T.self _ 0 _ _ _ (T.keep _ _ _ st fun b hb o e=>old b o e) (loop _ rfl))
def qgu {E0:XK} {i:Nat} {y:Str} {py spos:Pos} (hN:X.N.Nodup) (hyi:X.N[i]?=some y) (hy:X.env.scope.names.lookup y=some .local) (hsw:swapsWith (.ListComp elt [⟨tg,iter,ifs,0⟩] scope pos) (some (.Name y py)) spos.line X.env=pure true)
   (ok:qfJ X N nt caps scope) (hc:X.calm=true) (hi:PI X tg iter wi)
   (hg:∀cl C s H fp,PG (blk X N scope cl C s H fp) tg g) (hgk:qh8 nt g) (ht:∀cl C s H fp,PTs (blk X N scope cl C s H fp) ifs tt) (he:∀cl C s H fp ps xe,qfx (((blk X N scope cl C s H fp).pinned ps).wish xe) E0->PE (((blk X N scope cl C s H fp).pinned ps).wish xe) elt te) (tk:qfx X E0) (stk:X.stack=X.env::X.outer) (hfr:X.env.frame=some X.env.locals)
   (hs:∀x,foldedSetIterable iter X.env x=pure x:=by intro _;rfl):PS X (.Assign [.Name y py] (.ListComp elt [⟨tg,iter,ifs,0⟩] scope pos) spos) (qnK (qfy nt caps wi g tt te) (qel i)):=by
 intro pins s σ H D I h
 obtain ⟨cl,hcl,h1,h2⟩:=qcA (scope:=scope) (env:=X.env) fun n hn=>I.ok.has n (ok.free n hn)
 rw [exec_Assign_Name_used _ _ _ _ hsw]
 refine wpAny_bind (wpAny_standAt (wpAny_bind ?_))
 show wpAny _ X.A (do let _ <-comprehension (.ListComp elt [⟨tg,iter,ifs,0⟩] scope pos) scope X.env _ (newList []) false (eval iter X.env) (some (assign (.Name y py) X.env))) _ _ s
 refine wpAny_bind (wpAny_mono (wpAny_comprehension_free (use:=some (assign (.Name y py) X.env)) (Q:=fun _ s'=>SP X pins D .next s') rfl hs hcl ok.kind ok.names
   (thn (hi pins s σ H _ I h) fun xv s1 h1'=>thn h1' fun itv s2 h2'=>?_)) (fun _ s' hq=>wpAny_pure (wpAny_pure hq)) fun _ _ e=>e)
 obtain ⟨it,fp,tn,J,H2,e,I2,T,st2,f2,W,⟨m0,w0⟩,turn⟩:=h2'
 subst e
 refine qk3 (RR:=fun acc C=>compPost (model X.prog X.w) X.A X.xe (some (assign (.Name y py) X.env)) (fun _ s'=>SP X pins D .next s') acc C) ok hc h1 h2 hg hgk ht he tk stk hfr I2 T st2 f2 W
   (fun ys H'=>ys.length<=sizeLine/\∀p,H' p=none->qel i (.ref p) σ (upd H' p (.lst ys)) D.nx) m0 w0 turn ?_ (fun _ _ _ z=>z)
 intro C s' ys its n H' hC v IY e en zz
 obtain ⟨m,hn,_⟩:=IY.loc
 have I3:Inv X pins σ (upd H' s2.heap.objs.size (.lst ys)) s':=qe5 (h':=s'.heap) I2 f2 hC v zz.1 IY e en fun b o hb q=>q
 obtain ⟨o,es,ep,ho,r⟩:=id hn
 have fC:qhL X pins (upd H' s2.heap.objs.size (.lst ys)) C:=by
   have f:=I2.fpOk (H':=H') (b:=C) (yce hC) IY.free
   refine ⟨by rw [qap (Ne.symm (ydh hC))];exact IY.free,f.2⟩
 show wpAny (model X.prog X.w) X.A (assign (.Name y py) X.env (.ref s2.heap.objs.size)) (fun _ s''=>∃m,s''.heap.Ns C m/\∀h',Heap.SameBut C s''.heap h'->SP X pins D .next { s'' with heap:=h' }) X.xe s'
 have I3p:Inv X (pins++[(C,o)]) σ (upd H' s2.heap.objs.size (.lst ys)) s':=I3.pins_of fun p hp=>by
   rcases yat.mp hp with z | z
   . exact I3.pin p (yef _ z)
   . have e:p=(C,o):=by simpa using z
     subst e
     exact ⟨ho,fC.1,fC.2.1,fC.2.2.1,fun v z=>by rw [r.1] at z;cases z⟩
 refine wpAny_assign_Name (qcU I3p hN hyi (.inl hy) (v := .ref s2.heap.objs.size) rfl (fun s4 I4=>?_) (.inr hy))
 have a4:=I4.pin (C,o) (yef _ (yef _ (by simp)))
 refine ⟨m,⟨o,es,ep,a4.1,r⟩,fun h' hs'=>⟨_,_,?_,zz.2 _ en⟩⟩
 exact (I4.unpinned).turned (t':=s4.toks) (fun b o' hb q=>hs'.extBut b o' hb q) fC.1 fC.2.1 fC.2.2.2.1 fC.2.2.2.2.1 fC.2.2.2.2.2
end
end L2
namespace Tx
open PySem
def rS (ws:List Str) (z:Str):Option Nat :=
 if Txt.split z "+" = [("-" : Str)] then some 0 else
 if (∀w∈Txt.split z "+",w∈ws)/\((Txt.split z "+").map fun w=>ws.idxOf w).Pairwise (· < ·) then some (Fam.ofN ((Txt.split z "+").map fun w=>ws.idxOf w)) else none
def rF (ws:List Str) (z:Str):Option (List Nat) :=
 if Txt.split z " " = [("none" : Str)] then some [] else
 if (∀p∈Txt.split z " ",(rS ws p).isSome=true)/\((Txt.split z " ").map fun p=>(rS ws p).getD 0).length<=70/\((Txt.split z " ").map fun p=>(rS ws p).getD 0).Pairwise (· < ·) then some ((Txt.split z " ").map fun p=>(rS ws p).getD 0) else none
section
variable {ws:List Str} {a b:Nat}
def pF (ws:List Str) (fs:List Nat):List Str:=if fs=[] then [("none" : Str)] else fs.map (sT ws)
def ql5 (h:Wds ws):("-" : Str)∉ws:=fun z=>by
 have:=(h.wd _ z).2.2 45 (by rw [qgf];exact ybb)
 omega
def rS_sT (h:Wds ws) (ha:a<2^ws.length):rS ws (sT ws a)=some a:=by
 unfold rS
 rw [qmL h ha]
 by_cases c:a=0
 . rw [if_pos c,if_pos rfl,c]
 . rw [if_neg c,if_neg,if_pos,qk1 h ha,Fam.ofN_nms (qrm h ha)]
   . rw [qk1 h ha]
     exact ⟨fun w hw=>qeF h ha hw,Fam.nms_rise 8 a⟩
   . intro z
     exact ql5 h (qeF h ha (by rw [z];exact ybb))
def rS_lt (h:Wds ws) {z:Str} (e:rS ws z=some a):a<2^ws.length:=by
 unfold rS at e
 split at e
 . cases e
   exact yah _
 . split at e
   . rename_i c
     cases e
     refine Fam.ofN_lt fun k hk=>?_
     obtain ⟨w,hw,rfl⟩:=ybq.mp hk
     exact ygd (c.1 w hw)
   . cases e
def qp7 (h:Wds ws) {fs:List Nat} (hf:∀b∈fs,b<2^ws.length):(fs.map (sT ws)).map (fun p=>(rS ws p).getD 0)=fs:=by
 rw [yds]
 conv=>rhs;rw [<-yfk fs]
 refine yfl fun x hx=>?_
 show (rS ws (sT ws x)).getD 0=x
 rw [rS_sT h (hf x hx)]
 rfl
def qqd (h:Wds ws) {fs:List Nat} (hf:∀b∈fs,b<2^ws.length):∀p∈fs.map (sT ws),(rS ws p).isSome=true:=fun p hp=>by
 obtain ⟨x,hx,rfl⟩:=ybq.mp hp
 rw [rS_sT h (hf x hx)]
 rfl
def rF_fT (h:Wds ws) {fs:List Nat} (hf:∀b∈fs,b<2^ws.length) (hr:fs.Pairwise (· < ·)) (hl:fs.length<=70):rF ws (fT ws fs)=some fs:=by
 unfold rF
 rw [qme h hf]
 by_cases c:fs=[]
 . rw [if_pos c,if_pos rfl,c]
 . rw [if_neg c,if_neg,qp7 h hf,if_pos ⟨qqd h hf,hl,hr⟩]
   intro z
   have hm:("none" : Str)∈fs.map (sT ws):=by rw [z];exact ybb
   obtain ⟨x,hx,e⟩:=ybq.mp hm
   exact qpk h (hf x hx) e
def split_len (z:Str) (c:Nat):(Txt.split z ⟨#[c]⟩).length<=z.length+1:=by
 have e1:=StrLaws.join_split z ⟨#[c]⟩
 have e2:=congrArg sg e1
 rw [sg_join] at e2
 have:∀xs:List (List Nat),xs.length<=(jn c xs).length+1:=by
   intro xs
   induction xs with
   | nil=>exact ych _
   | cons x r ih =>
     cases r with
     | nil=>exact yge _ _
     | cons y r =>
       show (y::r).length+1<=(x++c::jn c (y::r)).length+1
       rw [yby,yca (as:=jn c (y::r))]
       omega
 have h:=this ((Txt.split z ⟨#[c]⟩).map sg)
 rw [e2,ybz,len_sg] at h
 exact h
def part_len (z:Str) (c:Nat):∀p∈Txt.split z ⟨#[c]⟩,p.length<=z.length:=by
 have e1:=StrLaws.join_split z ⟨#[c]⟩
 have e2:=congrArg sg e1
 rw [sg_join] at e2
 have:∀xs:List (List Nat),∀x∈xs,x.length<=(jn c xs).length:=by
   intro xs
   induction xs with
   | nil=>intro x hx;cases hx
   | cons x r ih =>
     intro y hy
     cases r with
     | nil=>rw [ydu.mp hy];exact yax _
     | cons y' r =>
       show _<=(x++c::jn c (y'::r)).length
       rw [yby,yca]
       rcases ybd.mp hy with rfl | hy
       . omega
       . have:=ih y hy
         omega
 intro p hp
 have h:=this ((Txt.split z ⟨#[c]⟩).map sg) (sg p) (ybq.mpr ⟨p,hp,rfl⟩)
 rw [e2,len_sg,len_sg] at h
 exact h
end
end Tx
namespace L2
open PySem PySem.Spec PyProof.Rows
section
variable {X:Cx} {K:PySem.W.Frag}
def qjX:qcf (CX1 X.prog X.w) X fun _ _ _=>False:=fun _ _ _ _ _ _ _ ⟨_,_,_,_,_,_,_,_,_,_,_,_,_,_,q⟩=>q.elim
end
end L2
namespace L2
open PySem PySem.Spec PyProof.Rows
section
variable {X:Cx} {e a b o:Expr} {es:List Expr} {te ta tb to:TE} {t:TA} {pos apos cpos:Pos}
end
def As (z:Str):Prop:=∀c∈Tx.sg z,c<128
section
variable {X:Cx}
def qiZ:∀(l:List (Array Nat)) (acc:Array Nat),(l.foldl (·++·) acc).toList=acc.toList++(l.map Array.toList).flatten
 | [],acc=>by simp
 | x::l,acc=>by
   rw [ybk,qiZ l]
   simp
def qok:R2:=fun x y H Q=>∃(z:Str) (n:Nat),x = .str z/\y = .int (n:Nat)/\1<=n/\n<=100/\z.length<=100/\∀r:Str,(∀c∈Tx.sg r,c∈Tx.sg z)->r.length=n*z.length->Q (.str r) H
def qkq:OpR X (binaryOp .Mult) qok:=by
 intro pins s σ H x y v u Q I rx ry h
 obtain ⟨z,n,rfl,rfl,h1,h2,hz,q⟩:=h
 obtain ⟨t,rfl⟩:=rx
 obtain ⟨t',rfl⟩:=ry
 have e24:sizeLine=16777216:=sizeLine_eq
 have hm:z.length*n<=100*100:=ygf hz h2
 refine P.mul_str (by rw [decide_eq_false (by omega),decide_eq_false (by omega)];rfl) (fun _ _=>?_) (fun _ _=>?_) ?_
 . have:((2:Int)^63-1)/100<=((2:Int)^63-1)/(n:Int):=by
     refine Int.le_ediv_of_mul_le (by omega) ?_
     have:((2:Int)^63-1)/100*(n:Int)<=((2:Int)^63-1)/100*100:=Int.mul_le_mul_of_nonneg_left (by omega) (by decide)
     omega
   omega
 . unfold Builtin.Str.tooLong
   rw [yer]
   exact decide_eq_false (by omega)
 . rw [if_neg (by omega)]
   by_cases c:(((n:Int)==1)||z.length==0)=true
   . rw [if_pos c]
     refine ⟨.str z,H,I.tok _,⟨_,rfl⟩,q z (fun _ hc=>hc) ?_⟩
     simp only [yff,beq_iff_eq] at c
     rcases c with c | c
     . rw [show n=1 by omega,yfx]
     . rw [c,Nat.mul_zero]
   . rw [if_neg c]
     have el:Tx.sg (⟨(List.replicate (n:Int).toNat z.cps).foldl (·++·) #[]⟩:Str)=(List.replicate n (Tx.sg z)).flatten:=by
       show ((List.replicate (n:Int).toNat z.cps).foldl (·++·) #[]).toList=_
       rw [qiZ,ygg,yer]
       rfl
     have ll:(⟨(List.replicate (n:Int).toNat z.cps).foldl (·++·) #[]⟩:Str).length=n*z.length:=by
       rw [<-Tx.len_sg,el,List.length_flatten,ygg,List.sum_replicate_nat,Tx.len_sg]
     refine ⟨?_,.str _,H,I.tok _,⟨_,rfl⟩,q _ (fun d hd=>?_) ll⟩
     . rw [ll,Nat.mul_comm]
       omega
     . rw [el] at hd
       obtain ⟨l,hl,hd⟩:=yga.mp hd
       rw [(List.mem_replicate.mp hl).2] at hd
       exact hd
end
def qnC {c d:Nat}:∀{xs:List (List Nat)} {x:List Nat},x∈xs->d∈x->d∈Tx.jn c xs
 | [y],x,hx,hd=>by rw [ydu.mp hx] at hd;exact hd
 | y::y'::r,x,hx,hd=>by
   show d∈y++c::Tx.jn c (y'::r)
   rcases ybd.mp hx with rfl | hx
   . exact yas _ hd
   . exact yef _ (ybe _ (qnC hx hd))
def qps {z:Str} (h:As z) (c:Nat):∀p∈Txt.split z ⟨#[c]⟩,As p:=fun p hp d hd=>by
 have e2:=congrArg Tx.sg (StrLaws.join_split z ⟨#[c]⟩)
 rw [Tx.sg_join] at e2
 exact h d (e2▸qnC (ybq.mpr ⟨p,hp,rfl⟩) hd)
def qoV {c:Nat} (hc:c<128) {ys:List Str} (h:∀y∈ys,As y):As (Txt.join ⟨#[c]⟩ ys):=fun d hd=>by
 rw [Tx.txt_join] at hd
 rcases Tx.jn_mem hd with e | ⟨x,hx,hd⟩
 . omega
 . obtain ⟨y,hy,rfl⟩:=ybq.mp hx
   exact h y hy d hd
end L2
namespace L2
open PySem PySem.Spec PyProof.Rows
def wdB (z:Str):Bool:=decide (1<=z.length)&&decide (z.length<=8)&&(Tx.sg z).all fun c=>decide (97<=c)&&decide (c<=122)
def rN (z:Str):Option (List Str) :=
 if Txt.split z " " = [("" : Str)] then some [] else
 if ((Txt.split z " ").all fun w=>wdB w&&!decide (w=("none" : Str)))=true/\(Txt.split z " ").length<=8/\cnt (Txt.split z " ")=(Txt.split z " ").length then some (Txt.split z " ") else none
end L2
namespace L2
open PySem PySem.Spec PyProof.Rows
section
variable {K:PySem.W.Frag} {n k:Nat} {H0 H H1:Hp} {pl:Addr} {ys:List V} {Q:VK}
end
end L2
namespace L2
open PySem PySem.Spec PyProof.Rows
def qqA {c:Nat}:∀xs:List (List Nat),(Tx.jn c xs.reverse).length=(Tx.jn c xs).length:=by
 have tot:∀xs:List (List Nat),(Tx.jn c xs).length+(if xs=[] then 1 else 0)+1=(xs.map fun x=>x.length+1).sum+(if xs=[] then 2 else 0):=by
   intro xs
   induction xs with
   | nil=>rfl
   | cons x r ih =>
     cases r with
     | nil=>simp [Tx.jn]
     | cons y r =>
       rw [Tx.jn_cons (by simp),yby,yca]
       rw [if_neg (by simp),if_neg (by simp)] at ih ⊢
       rw [ycw,List.sum_cons]
       omega
 intro xs
 have h1:=tot xs
 have h2:=tot xs.reverse
 have e:(xs.reverse.map fun x=>x.length+1).sum=(xs.map fun x=>x.length+1).sum:=by
   rw [ygh,List.sum_reverse]
 rw [e] at h2
 by_cases h0:xs=[]
 . rw [h0];rfl
 . rw [if_neg h0,if_neg h0] at h1
   rw [if_neg (by simpa using h0),if_neg (by simpa using h0)] at h2
   omega
def turned {z:Str} (h:As z) {c:Nat} (hc:c<128):As (Txt.join ⟨#[c]⟩ (Txt.split z ⟨#[c]⟩).reverse)/\(Txt.join ⟨#[c]⟩ (Txt.split z ⟨#[c]⟩).reverse).length=z.length:=by
 refine ⟨qoV hc fun y hy=>qps h c y (ybp.mp hy),?_⟩
 have e2:=congrArg Tx.sg (StrLaws.join_split z ⟨#[c]⟩)
 rw [Tx.sg_join] at e2
 rw [<-Tx.len_sg,Tx.txt_join,ygh,qqA,e2,Tx.len_sg]
def qmR {c:Nat}:∀{L:List Nat},L.Nodup->(∀x∈L,x=c)->c∈L->L=[c]
 | [],_,_,h=>by cases h
 | x::r,nd,h,_=>by
   have e:=h x ybb
   subst e
   cases r with
   | nil=>rfl
   | cons y r =>
     have:=h y (ybe _ ybb)
     subst this
     exact absurd ybb (yej.mp nd).1
def qb4 {ws:List Str} (nd:ws.Nodup) (w:Str):(List.range ws.length).filter (fun k=>decide (ws.getD k Str.empty=w))=if w∈ws then [ws.idxOf w] else []:=by
 have at':∀k,k<ws.length->ws[k]?=some (ws.getD k Str.empty):=fun k hk=>by rw [yfg,ybu hk];rfl
 by_cases h:w∈ws
 . rw [if_pos h]
   have hl:=ygd h
   refine qmR (List.nodup_range.sublist yba) (fun x hx=>?_) ?_
   . obtain ⟨h1,h2⟩:=yay.mp hx
     have h1:=ybh.mp h1
     have h2:=of_decide_eq_true h2
     have e1:=at' x h1
     have e2:ws[ws.idxOf w]?=some w:=by rw [ybu hl,ygi]
     rw [h2] at e1
     obtain ⟨q1,q2⟩:=ycd.mp e1
     obtain ⟨q3,q4⟩:=ycd.mp e2
     exact (yeb nd).mp (q2.trans q4.symm)
   . refine yay.mpr ⟨ybh.mpr hl,decide_eq_true ?_⟩
     have e2:ws[ws.idxOf w]?=some w:=by rw [ybu hl,ygi]
     have:=at' _ hl
     rw [e2] at this
     exact (Option.some.inj this).symm
 . rw [if_neg h,List.filter_eq_nil_iff]
   intro k hk z
   have z:=of_decide_eq_true z
   exact h (z▸ybv (at' k (ybh.mp hk)))
def qiJ (L:List Nat) (k:Nat):Fam.ofN (L++[k])=Fam.ofN L|||2^k:=by
 unfold Fam.ofN
 rw [yaq]
 rfl
end L2
namespace L2
open PySem PySem.Spec PyProof.Rows
def qlz:∀(n:Nat) (A:List Int),A.Nodup->(∀x∈A,0<=x/\x<(n:Int))->A.length<=n
 | 0,A,_,h=>by
   cases A with
   | nil=>exact yax _
   | cons x r=>have:=h x ybb;omega
 | n+1,A,nd,h=>by
   have ih:=qlz n (A.erase (n:Int)) (nd.erase _) fun x hx=>by
     have h1:=h x (List.mem_of_mem_erase hx)
     have h2:x≠(n:Int):=fun e=>by
       subst e
       exact (List.Nodup.not_mem_erase nd) hx
     omega
   by_cases hm:(n:Int)∈A
   . rw [ybt hm] at ih
     omega
   . rw [List.erase_of_not_mem hm] at ih
     omega
def qhi {ns:List Int} {n:Nat} (h:∀x∈ns,0<=x/\x<(n:Int)):(qc7 ns).length<=n:=qlz n _ (qcp ns) fun x hx=>h x (qck.mp hx)
def qj3 {ws P:List Str} {N:Nat} (h8:ws.length<=8) (m:∀w∈P,w∈ws) (hN:8<=N):(qc7 (nI (P.map fun w=>ws.idxOf w))).length<=N:=by
 refine ycf (qhi (n:=8) fun x hx=>?_) hN
 obtain ⟨k,hk,rfl⟩:=ybq.mp hx
 obtain ⟨w,hw,rfl⟩:=ybq.mp hk
 have:=ygd (m w hw)
 omega
end L2
namespace Fam
end Fam
namespace L2
open PySem PySem.Spec PyProof.Rows
section
variable {K:PySem.W.Frag} {g:TG} {tb:TS} {D:qe7} {σ:L2.St} {H:Hp} {a:Addr} {ta:TA}
end
inductive Pap (H:Hp) (fs gs:List Nat) (m:Nat):Nat->Nat->Nat->Addr->Prop
 | one {n ti to:Nat} {t:Addr} {j b:Nat} (h:H t=some (.tup [.str "one",.int (j:Nat)])) (h1:fs[j]?=some b) (h2:Fam.sub b ti):Pap H fs gs m (n+1) ti to t
 | other {n ti to:Nat} {t:Addr} {j b:Nat} (h:H t=some (.tup [.str "other",.int (j:Nat)])) (h1:gs[j]?=some b) (h2:Fam.sub b to):Pap H fs gs m (n+1) ti to t
 | name {n ti to:Nat} {t u v:Addr} {k:Nat} (h:H t=some (.tup [.str "name",.int (k:Nat),.ref u,.ref v])) (hk:k<m) (h1:ti.testBit k=false) (h2:to.testBit k=false) (p1:Pap H fs gs m n (ti|||2^k) to u) (p2:Pap H fs gs m n ti (to|||2^k) v):Pap H fs gs m (n+1) ti to t
end L2
namespace L2
open PySem PySem.Spec PyProof.Rows
section
variable {X:Cx} {pins:List (Addr×Obj)} {σ:St} {H:Hp} {s:Shared} {h':Heap} {K:PySem.W.Frag}
def Inv.turnedL {t':Nat} {ch:List Addr} (I:Inv X pins σ H s) (k:∀b o,b∉ch->s.heap.get? b=some o->h'.get? b=some o) (f:∀b∈ch,qhL X pins H b):Inv X pins σ H { s with heap:=h',toks:=t' }:=by
 have nit:∀b u,H b=some u->b∉ch:=fun b u q z=>by rw [(f b z).1] at q;cases q
 refine I.step (g':=s.gens) (d':=s.drawn) (ch:=ch) (fun b hb=>⟨(f b hb).2.2.2.1,(f b hb).2.1,(f b hb).2.2.2.2.1,(f b hb).2.2.2.2.2⟩) (fun b o _ _ hc q _=>k b o hc q) (fun b o _ _ hc q _=>⟨o.slots,k b o hc q⟩) (fun _ _ _ _ n=>n)
   (fun b o hc q=>⟨o,k b o hc q⟩) (fun _ _ q=>q) (fun _ _ _ q=>q) (fun b ps q=>⟨#[],by rw [q];simp⟩) (fun m hm=>?_) (fun b u q=>?_) I.bare
 . obtain ⟨o,es,ep,ho,r⟩:=hm
   exact ⟨o,es,ep,k _ o (fun z=>(f _ z).2.1 rfl) ho,r⟩
 . refine (I.hok b u q).stay (fun c v hc z=>k c v ?_ z) (fun _ z=>z) fun _ _ z=>z
   rcases hc with y | y
   . rw [y];exact nit b u q
   . exact nit c _ y
end
section
variable {K:PySem.W.Frag} {g:TG} {tb:TS} {D:qe7} {σ:L2.St} {H:Hp} {a b:Addr} {ta:TA}
end
end L2
namespace L2
open PySem PySem.Spec PyProof.Rows
def KDt (P:Program) (w:World) (K:PySem.W.Frag) (a:Addr) (kvs:List (Key×V)):Prop :=
 (a==sysModules)=false/\∃(o:Obj) (vs:List (Key×Value)),K.lookup a=some o/\KV kvs vs/\∀h:Heap,h.get? a=some o->h.DictOf (qa1 P w) a vs
section
variable {X:Cx} {pins:List (Addr×Obj)} {σ:St} {H:Hp} {s:Shared} {a:Addr} {kvs:List (Key×V)} {P:Program} {w:World} {K:PySem.W.Frag}
def Inv.kdt (I:Inv X pins σ H s) (h:KDt X.prog X.w X.K a kvs):(a==sysModules)=false/\∃vs,KV kvs vs/\s.heap.DictOf (qa1 X.prog X.w) a vs:=by
 obtain ⟨z,o,vs,lk,r,d⟩:=h
 exact ⟨z,vs,r,d _ (I.kIn a o lk)⟩
def qqD (P:Program) (w:World) (K:PySem.W.Frag) (td ty:TE):TE:=fun σ H Q=>td σ H fun x H1=>ty σ H1 fun y H2=>∃(a:Addr) (kvs:List (Key×V)) (k:Key) (v:V),x = .ref a/\y=kV k/\KDt P w K a kvs/\qc5 kvs k=some v/\Q v H2
def qqn (P:Program) (w:World) (K:PySem.W.Frag) (ty td:TE):TE:=fun σ H Q=>ty σ H fun y H1=>td σ H1 fun x H2=>∃(a:Addr) (kvs:List (Key×V)) (k:Key),x = .ref a/\y=kV k/\KDt P w K a kvs/\Q (.bl (!(qc5 kvs k).isSome)) H2
variable {o i:Expr} {pos:Pos} {td ty:TE}
def qh9 (hP:X.prog=P) (hw:X.w=w) (hK:X.K=K) (ho:PE X o td) (hi:PE X i ty) (hs:qsx i):PE X (.Subscript o i pos) (qqD P w K td ty):=by
 subst hP hw hK
 intro pins s σ H Q I h
 refine qjK yfc.lookup hs (thn (ho pins s σ H _ I h) fun u s1 ⟨x,H1,I1,rx,q1⟩=>thn (hi pins s1 σ H1 _ I1 q1) fun iv s2 ⟨y,H2,I2,ry,b,kvs,k,v,ex,ey,g,hv,q2⟩=>?_)
 subst ex ey
 obtain rfl:u=Value.ref b:=rx
 obtain ⟨_,vs,rel,dd⟩:=I2.kdt g
 obtain ⟨w',hw,rw'⟩:=qhz.some_of (v:=v) (o:=valueAt vs k) (by rw [<-hv];exact rel.val k)
 exact ⟨dd.typeIs,wpAny_getItem_of (qjm ry) dd.mapOf hw ⟨v,H2,I2.tok _,rw',q2⟩⟩
def qo4 (hP:X.prog=P) (hw:X.w=w) (hK:X.K=K) (hi:PE X i ty) (ho:PE X o td):PC X .NotIn i o (qqn P w K ty td):=by
 subst hP hw hK
 intro pins s σ H Q I h
 refine thn (hi pins s σ H _ I h) fun iv s1 ⟨y,H1,I1,ry,q1⟩=>thn (ho pins s1 σ H1 _ I1 q1) fun u s2 ⟨x,H2,I2,rx,b,kvs,k,ex,ey,g,q2⟩=>?_
 subst ex ey
 obtain rfl:u=Value.ref b:=rx
 obtain ⟨hd,vs,rel,dd⟩:=I2.kdt g
 refine wpAny_notIn_of (qjm ry) hd dd.mapOf ?_
 rw [<-(rel.val k).isSome_eq]
 exact ⟨.bl _,H2,I2.tok _,rfl,q2⟩
end
section
variable {X:Cx}
def qpG:V->List V->Hp->VK->Prop:=fun x vs H Q=>∃(z y:Str) (n:Nat),x = .str z/\vs=[.str y,.int (n:Nat)]/\(y.length==0)=false/\z.length<=100000/\n<=1000/\∀l,H l=none->Q (.ref l) (upd H l (.lst (sV (Txt.splitMax z y (n:Int)))))
def qq8 (z y:Str) (n:Int):(Txt.splitMax z y n).length<=z.length+2:=by
 unfold Txt.splitMax
 split
 . exact yge _ _
 . split
   . exact yge _ _
   . have e1:=StrLaws.occ_length_le_len z y 0 z.length (limitOf z n)
     rw [length_partsBetween]
     omega
def qkK:MtM X "str.split" qpG:=by
 intro pins s σ H x vs v us Q I rx rv h
 obtain ⟨z,y,n,rfl,rfl,hy,hz,hn,q⟩:=h
 obtain ⟨t,rfl⟩:=rx
 obtain ⟨u,u3,rfl,ru,ru3⟩:=qmi rv
 obtain ⟨t2,rfl⟩:=ru
 obtain ⟨t3,rfl⟩:=ru3
 have hl:=qq8 z y (n:Int)
 have e24:sizeLine=16777216:=sizeLine_eq
 have hk:(decide ((n:Int) < -(2^63:Int))||decide ((n:Int)≥2^63))=false:=by
   rw [decide_eq_false (by omega),decide_eq_false (by omega)]
   rfl
 have fin:∀(l:List (Str×Tok)) (k:Nat),l.map (·.1)=Txt.splitMax z y (n:Int)->EP X pins σ Q (.ref s.heap.objs.size) { s with heap:=s.heap.push { cls := .type "list",data := .seq (strValues l).toArray },toks:=k }:=fun l k e =>
   ⟨.ref s.heap.objs.size,_,I.lnew (ys:=sV (Txt.splitMax z y (n:Int))) (t':=k) (by rw [<-e];exact qe0 l) (by rw [ybz];omega),rfl,q _ I.fresh⟩
 cases h1:(decide (z.length<y.length)||decide (Builtin.Str.strKind z<Builtin.Str.strKind y)) with
 | true=>exact call_meets F.slot_str_split (typeIs_str _ _ _) F.entry_str_split (F.args_str_split_3 _ _ _) (meets_str_split_max_cannot_occur z y n t t2 t3 hk h1) (fin [(z,t)] s.toks (if_pos h1).symm)
 | false =>
   cases h2:(Builtin.Str.occurrences z y 0 z.length (limitOf z n)).isEmpty with
   | true=>exact call_meets F.slot_str_split (typeIs_str _ _ _) F.entry_str_split (F.args_str_split_3 _ _ _) (meets_str_split_max_not_found z y n t t2 t3 hk h1 hy h2) (fin [(z,t)] s.toks ((if_neg (ne_true_of_eq_false h1)).trans (if_pos h2)).symm)
   | false =>
     have es:Txt.splitMax z y (n:Int)=Builtin.Str.partsBetween z (Builtin.Str.occurrences z y 0 z.length (limitOf z n)) y.length:=(if_neg (ne_true_of_eq_false h1)).trans (if_neg (ne_true_of_eq_false h2))
     refine call_meets F.slot_str_split (typeIs_str _ _ _) F.entry_str_split (F.args_str_split_3 _ _ _) (meets_str_split_sep_max z y n t t2 t3 hk h1 hy h2 (by omega) (by rw [<-es];omega)) ?_
     rw [strsFrom_eq]
     exact fin (numbered s.toks _) _ ((numbered_texts _ _).trans es.symm)
end
end L2
namespace L2
open PySem PySem.Spec PyProof.Rows
structure Drw (P:Program) (w:World) (it src:Addr) (tn:Nat->Heap->Prop) (vs:Array Value):Prop where
 item:∀{A:Around} {E:Value->Shared->Prop} {s:Shared} {k:Nat} {x:Value} {Q:Value->Shared->Prop},tn k s.heap->vs[k]?=some x->(∀g,tn (k+1) g->Heap.SameBut it s.heap g->Q x { s with heap:=g })->wpAny (model P w) A (Builtin.SmallTypes.nextOf (.ref it)) Q E s
 stop:∀{A:Around} {E:Value->Shared->Prop} {s:Shared} {k:Nat} {Q:Value->Shared->Prop},A.handled=none->tn k s.heap->vs[k]?=none->(∀g e,Heap.ExtBut it s.heap g->(∃o,g.get? e=some o/\o.cls = .type "StopIteration")->E (.ref e) { s with heap:=g })->wpAny (model P w) A (Builtin.SmallTypes.nextOf (.ref it)) Q E s
 keep:∀{k:Nat} {h g:Heap},tn k h->(∀b o,(b=it\/b=src)->h.get? b=some o->g.get? b=some o)->tn k g
 rcd:∀{k:Nat} {h:Heap},tn k h->∃o,h.get? it=some o/\∀v,o.data ≠ .cell v
section
variable {P:Program} {w:World} {it src:Addr} {vs:Array Value}
def Drw.list (ne:src≠it):Drw P w it src (fun k h=>h.IsListIter it src k/\h.IsList src vs) vs where
 item:=fun ⟨h1,h2⟩ hx q=>wpAny_nextOf_list_item h1 h2 hx fun g a b=>q g ⟨a,h2.extBut b.extBut ne⟩ b
 stop:=fun hh ⟨h1,h2⟩ hx q=>wpAny_nextOf_list_end hh h1 h2 hx q
 keep:=fun ⟨h1,h2⟩ k=>⟨h1.at fun o e=>k it o (.inl rfl) e,h2.at fun o e=>k src o (.inr rfl) e⟩
 rcd:=fun ⟨⟨o,e,_,d⟩,_⟩=>⟨o,e,fun v z=>by rw [d] at z;cases z⟩
def Drw.tup (ne:src≠it):Drw P w it src (fun k h=>IsTupIter h it src k/\IsTup h src vs) vs where
 item:=by
   rintro A E s k x Q ⟨h1,h2⟩ hx q
   obtain ⟨oi,gi,ci,di⟩:=id h1
   obtain ⟨ot,gt,ct,nt,dt⟩:=id h2
   unfold Builtin.SmallTypes.nextOf
   refine wpAny_bind (wpAny_callSpecial?_slot (name:=Str.ofString "__next__") h1.typeIs slot_tupleiter_next (wpAny_call_entry slot_tupleiter_next h1.typeIs entry_tupleiter_next ?_ (args_tupleiter_next _)))
   show wpAny _ _ (field (.ref it) 0 >>= _) _ _ s;refine wpAny_bind (wpAny_field gi di (x := .ref src) rfl ?_)
   show wpAny _ _ (if (Value.ref src==Value.none)=true then _ else _) _ _ s;rw [if_neg (show ¬((Value.ref src==Value.none)=true) from yeh)]
   show wpAny _ _ (field (.ref it) 1 >>= _) _ _ s;refine wpAny_bind (wpAny_field gi di (x := .int k 0) rfl ?_)
   show wpAny _ _ (seqItems? (.ref src) >>= _) _ _ s;refine wpAny_bind (wpAny_seqItems gt dt ?_)
   simp only [yer,hx]
   have st:IsTupIter (s.heap.update it (Obj.mapFields (·.setIfInBounds 1 (rawInt (k+1))))) it src (k+1) :=
     ⟨_,yda _ gi (Obj.isFreed_of_fields (Obj.data_mapFields di _)),(Obj.cls_mapFields ..).trans ci,by rw [Obj.data_mapFields di];simp [rawInt]⟩
   refine wpAny_bind (wpAny_setField gi di (by simp) (wpAny_pure ⟨x,rfl,wpAny_pure (q _ ⟨st,ot,?_,ct,nt,dt⟩ (Heap.SameBut.update ..))⟩))
   rw [ydq _ _ (Ne.symm ne)]
   exact gt
 stop:=by
   rintro A E s k Q hh ⟨h1,h2⟩ hx q
   obtain ⟨oi,gi,ci,di⟩:=id h1
   obtain ⟨ot,gt,ct,nt,dt⟩:=id h2
   unfold Builtin.SmallTypes.nextOf
   refine wpAny_bind (wpAny_callSpecial?_slot (name:=Str.ofString "__next__") h1.typeIs slot_tupleiter_next (wpAny_call_entry slot_tupleiter_next h1.typeIs entry_tupleiter_next ?_ (args_tupleiter_next _)))
   show wpAny _ _ (field (.ref it) 0 >>= _) _ _ s;refine wpAny_bind (wpAny_field gi di (x := .ref src) rfl ?_)
   show wpAny _ _ (if (Value.ref src==Value.none)=true then _ else _) _ _ s;rw [if_neg (show ¬((Value.ref src==Value.none)=true) from yeh)]
   show wpAny _ _ (field (.ref it) 1 >>= _) _ _ s;refine wpAny_bind (wpAny_field gi di (x := .int k 0) rfl ?_)
   show wpAny _ _ (seqItems? (.ref src) >>= _) _ _ s;refine wpAny_bind (wpAny_seqItems gt dt ?_)
   simp only [yer,hx]
   refine wpAny_bind (wpAny_rule (wpAny_bind (wpAny_setField gi di (by simp) ?_)));show wpAny _ _ (newExc (.type "StopIteration") [] >>= _) _ _ _
   refine wpAny_bind ?_;simp only [newExc,newTuple];refine wpAny_bind (wpAny_newObj_type ?_ (by size_fits))
   refine wpAny_bind (m:=firstArgMember _ _) (wpAny_of_eq (a:=Value.none) (by first | rfl | (simp only [firstArgMember];rfl)) (wpAny_newObj_type ?_ (by size_fits)))
   simp only [raiseNew];refine wpAny_bind (wpAny_handled ?_);first | rw [show A.in1.handled=none from hh] | rw [hh]
   exact wpAny_bind (wpAny_pure (wpAny_throw (q _ _ (((Heap.SameBut.update ..).extBut.push _).push _) ⟨_,ydd _ rfl,rfl⟩)))
 keep:=fun ⟨h1,h2⟩ k=>by
   obtain ⟨oi,gi,ri⟩:=h1
   obtain ⟨ot,gt,rt⟩:=h2
   exact ⟨⟨oi,k it oi (.inl rfl) gi,ri⟩,ot,k src ot (.inr rfl) gt,rt⟩
 rcd:=fun ⟨⟨o,e,_,d⟩,_⟩=>⟨o,e,fun v z=>by rw [d] at z;cases z⟩
variable {A:Around} {E:Value->Shared->Prop} {s:Shared} {z TI TO i1 i2 l1 l2:Addr} {t1 t2:Nat->Heap->Prop} {xs ys:Array Value} {k:Nat} {a b:Value}
def qog {x y:Value} {Q:Option Value->Shared->Prop} (D:ZipApart z TI TO i1 i2 l1 l2) (D1:Drw P w i1 l1 t1 xs) (D2:Drw P w i2 l2 t2 ys)
   (hz:IsZip s.heap z TI TO .none) (hI:IsPair s.heap TI (.ref i1) (.ref i2)) (hO:IsPair s.heap TO a b) (c1:t1 k s.heap) (c2:t2 k s.heap) (hx:xs[k]?=some x) (hy:ys[k]?=some y)
   (q:∀g,IsZip g z TI TO (rawInt s.heap.objs.size)->IsPair g TO x y->t1 (k+1) g->t2 (k+1) g->IsPair g s.heap.objs.size x y->(∀c o,c≠z->c≠TO->c≠i1->c≠i2->s.heap.get? c=some o->g.get? c=some o)->Q (some (.ref s.heap.objs.size)) { s with heap:=g }) :
   wpAny (model P w) A (pyNext (.ref z)) Q E s:=by
 have tz:s.TypeIs (.ref z) "zip" := ⟨_,hz,rfl⟩
 unfold pyNext
 refine wpAny_bind (wpAny_attempt (wpAny_callSpecial?_slot (name:=Str.ofString "__next__") tz F.slot_zip_next (wpAny_call_entry F.slot_zip_next tz F.entry_zip_next ?_ (F.args_zip_next_1 _))))
 show wpAny _ _ (field (.ref z) 2 >>= _) _ _ _;refine wpAny_bind (wpAny_field hz rfl (x := .bool false) rfl ?_);show wpAny _ _ (field (.ref z) 3 >>= _) _ _ _
 refine wpAny_bind (wpAny_field hz rfl (x := .ref TI) rfl (wpAny_bind (wpAny_seqItems hI rfl ?_)));show wpAny _ _ (Builtin.SmallTypes.ownedTupleIsFree (.ref z) >>= _) _ _ _
 refine wpAny_bind ?_;unfold Builtin.SmallTypes.ownedTupleIsFree;refine wpAny_bind (wpAny_field hz rfl (x := .none) rfl (wpAny_pure ?_));simp only [if_true]
 refine wpAny_bind (wpAny_rule (wpAny_bind (wpAny_field hz rfl (x := .ref TO) rfl ?_)));refine wpAny_bind (wpAny_setField_rec hz (by simp) fun g1 e1 m1=>?_)
 replace e1:IsZip g1 z TI TO .ellipsis:=e1;refine wpAny_bind ?_;simp only [List.zipIdx_cons,List.zipIdx_nil,yfe,List.forIn_nil]
 have c1':t1 k g1:=D1.keep c1 fun b o hb e=>m1.extBut _ _ (by rcases hb with rfl | rfl;exact D.i1z;exact D.l1z) e
 have c2':t2 k g1:=D2.keep c2 fun b o hb e=>m1.extBut _ _ (by rcases hb with rfl | rfl;exact D.i2z;exact D.l2z) e
 refine wpAny_bind (wpAny_bind (wpAny_onRaise ?_));show wpAny _ _ (Builtin.SmallTypes.nextOf (.ref i1) >>= _) _ _ _
 refine wpAny_bind (D1.item (s:={ s with heap:=g1 }) c1' hx fun g2 d1 m2=>wpAny_pure ?_)
 have o2:IsPair g2 TO a b:=m2.extBut _ _ D.TOi1 (m1.extBut _ _ D.TOz hO)
 refine wpAny_bind (wpAny_seqItems o2 rfl (wpAny_bind (wpAny_updateSeq_pair o2 fun g3 o3 m3=>wpAny_bind (wpAny_letGo (wpAny_pure ?_)))));replace o3:IsPair g3 TO x b:=o3
 have c2':t2 k g3:=D2.keep c2' fun b o hb e=>m3.extBut _ _ (by rcases hb with rfl | rfl;exact D.TOi2.symm;exact D.l2TO) (m2.extBut _ _ (by rcases hb with rfl | rfl;exact D.i12.symm;exact D.l2i1) e)
 refine wpAny_bind (wpAny_bind (wpAny_onRaise ?_));show wpAny _ _ (Builtin.SmallTypes.nextOf (.ref i2) >>= _) _ _ _
 refine wpAny_bind (D2.item (s:={ s with heap:=g3 }) c2' hy fun g4 d2 m4=>wpAny_pure ?_)
 have o4:IsPair g4 TO x b:=m4.extBut _ _ D.TOi2 o3
 refine wpAny_bind (wpAny_seqItems o4 rfl (wpAny_bind (wpAny_updateSeq_pair o4 fun g5 o5 m5=>wpAny_bind (wpAny_letGo (wpAny_pure (wpAny_pure ?_))))));replace o5:IsPair g5 TO x y:=o5
 refine wpAny_bind (wpAny_seqItems o5 rfl (wpAny_bind (wpAny_newTuple ?_)))
 have sz:g5.objs.size=s.heap.objs.size:=by rw [m5.1,m4.1,m3.1,m2.1,m1.1]
 have z5:IsZip g5 z TI TO .ellipsis:=m5.extBut _ _ D.TOz.symm (m4.extBut _ _ D.i2z.symm (m3.extBut _ _ D.TOz.symm (m2.extBut _ _ D.i1z.symm e1)))
 have old:∀c o,c≠z->c≠TO->c≠i1->c≠i2->s.heap.get? c=some o->g5.get? c=some o:=fun c o n1 n2 n3 n4 e=>m5.extBut _ _ n2 (m4.extBut _ _ n4 (m3.extBut _ _ n2 (m2.extBut _ _ n3 (m1.extBut _ _ n1 e))))
 have d1':t1 (k+1) g5:=D1.keep d1 fun b o hb e=>m5.extBut _ _ (by rcases hb with rfl | rfl;exact D.TOi1.symm;exact D.l1TO) (m4.extBut _ _ (by rcases hb with rfl | rfl;exact D.i12;exact D.l1i2) (m3.extBut _ _ (by rcases hb with rfl | rfl;exact D.TOi1.symm;exact D.l1TO) e))
 have d2':t2 (k+1) g5:=D2.keep d2 fun b o hb e=>m5.extBut _ _ (by rcases hb with rfl | rfl;exact D.TOi2.symm;exact D.l2TO) e
 have zl:z<g5.objs.size:=ydf z5
 show wpAny _ _ (Builtin.SmallTypes.ownedTupleHandOut (.ref z) (.ref g5.objs.size) >>= _) _ _ _;refine wpAny_bind ?_;unfold Builtin.SmallTypes.ownedTupleHandOut
 have z6:IsZip (g5.push { cls := .type "tuple",data := .seq #[x,y] }) z TI TO .ellipsis:=yde _ z5
 refine wpAny_bind (wpAny_setField_rec z6 (by simp) fun g7 z7 m7=>?_);replace z7:IsZip g7 z TI TO (rawInt g5.objs.size):=z7
 refine wpAny_setField_rec z7 (by simp) fun g8 z8 m8=>?_;replace z8:IsZip g8 z TI TO (rawInt g5.objs.size):=z8
 have up:∀c o,c≠z->g5.get? c=some o->g8.get? c=some o:=fun c o n e=>m8.extBut _ _ n (m7.extBut _ _ n (yde _ e))
 have p8:IsPair g8 g5.objs.size x y:=m8.extBut _ _ (ydk zl) (m7.extBut _ _ (ydk zl) (ydd _ rfl))
 rw [sz] at z8 p8
 refine wpAny_pure ⟨_,rfl,wpAny_pure ?_⟩
 show Q (some (.ref g5.objs.size)) _;rw [sz]
 exact q g8 z8 (up _ _ D.TOz o5) (D1.keep d1' fun b o hb e=>up b o (by rcases hb with rfl | rfl;exact D.i1z;exact D.l1z) e) (D2.keep d2' fun b o hb e=>up b o (by rcases hb with rfl | rfl;exact D.i2z;exact D.l2z) e) p8 fun c o n1 n2 n3 n4 e=>up c o n1 (old c o n1 n2 n3 n4 e)
def qpJ {Q:Option Value->Shared->Prop} (hh:A.handled=none) (D:ZipApart z TI TO i1 i2 l1 l2) (D1:Drw P w i1 l1 t1 xs)
   (hz:IsZip s.heap z TI TO .none) (hI:IsPair s.heap TI (.ref i1) (.ref i2)) (hO:IsPair s.heap TO a b) (c1:t1 k s.heap) (hx:xs[k]?=none)
   (q:∀g,(∀c o,c≠z->c≠TO->c≠i1->c≠i2->s.heap.get? c=some o->g.get? c=some o)->Q none { s with heap:=g }):wpAny (model P w) A (pyNext (.ref z)) Q E s:=by
 have tz:s.TypeIs (.ref z) "zip" := ⟨_,hz,rfl⟩
 unfold pyNext
 refine wpAny_bind (wpAny_attempt (wpAny_callSpecial?_slot (name:=Str.ofString "__next__") tz F.slot_zip_next (wpAny_call_entry F.slot_zip_next tz F.entry_zip_next ?_ (F.args_zip_next_1 _))))
 show wpAny _ _ (field (.ref z) 2 >>= _) _ _ _;refine wpAny_bind (wpAny_field hz rfl (x := .bool false) rfl ?_);show wpAny _ _ (field (.ref z) 3 >>= _) _ _ _
 refine wpAny_bind (wpAny_field hz rfl (x := .ref TI) rfl (wpAny_bind (wpAny_seqItems hI rfl ?_)));show wpAny _ _ (Builtin.SmallTypes.ownedTupleIsFree (.ref z) >>= _) _ _ _
 refine wpAny_bind ?_;unfold Builtin.SmallTypes.ownedTupleIsFree;refine wpAny_bind (wpAny_field hz rfl (x := .none) rfl (wpAny_pure ?_));simp only [if_true]
 refine wpAny_bind (wpAny_rule (wpAny_bind (wpAny_field hz rfl (x := .ref TO) rfl ?_)));refine wpAny_bind (wpAny_setField_rec hz (by simp) fun g1 e1 m1=>?_)
 replace e1:IsZip g1 z TI TO .ellipsis:=e1;refine wpAny_bind ?_;simp only [List.zipIdx_cons,List.zipIdx_nil,yfe,List.forIn_nil]
 have c1':t1 k g1:=D1.keep c1 fun b o hb e=>m1.extBut _ _ (by rcases hb with rfl | rfl;exact D.i1z;exact D.l1z) e
 refine wpAny_bind (wpAny_bind (wpAny_onRaise ?_));show wpAny _ _ (Builtin.SmallTypes.nextOf (.ref i1) >>= _) _ _ _
 refine wpAny_bind (D1.stop (s:={ s with heap:=g1 }) hh c1' hx fun g2 e m2 ⟨oe,ge,ce⟩=>?_)
 have z2:IsZip g2 z TI TO .ellipsis:=m2 _ _ D.i1z.symm e1
 have nz:e≠z:=fun x=>by subst x;rw [z2] at ge;cases ge;simp at ce
 refine wpAny_setField_rec z2 (by simp) fun g3 _ m3=>?_
 refine wpAny_bind (wpAny_isInstance (T := "StopIteration") (b:=true) ⟨oe,m3.extBut _ _ nz ge,ce⟩ isSubtype_stop (wpAny_pure (q g3 fun c o n1 _ n3 _ x=>m3.extBut _ _ n1 (m2 _ _ n3 (m1.extBut _ _ n1 x)))))
end
end L2
namespace Tx
open PySem
def qfu (c:Nat):List Nat->Nat->List Nat
 | [],_=>[]
 | d::r,k=>if d=c then k::qfu c r (k+1) else qfu c r (k+1)
def qgb (c:Nat):∀(a b:List Nat) (k:Nat),qfu c (a++b) k=qfu c a k++qfu c b (k+a.length)
 | [],b,k=>rfl
 | d::r,b,k=>by
   show (if d=c then k::qfu c (r++b) (k+1) else qfu c (r++b) (k+1))=(if d=c then k::qfu c r (k+1) else qfu c r (k+1))++_
   rw [qgb c r b (k+1),yca,show k+1+r.length=k+(r.length+1) by omega]
   split<;>rfl
def qir (c:Nat):∀(a:List Nat) (k:Nat),c∉a->qfu c a k=[]
 | [],_,_=>rfl
 | d::r,k,h=>by
   show (if d=c then k::qfu c r (k+1) else qfu c r (k+1))=[]
   rw [if_neg (fun e:d=c=>h (by rw [e];exact ybb)),qir c r (k+1) fun z=>h (ybe _ z)]
def qeA (c:Nat):∀(L:List Nat) (k:Nat),(List.range' k (L.length+1)).filter (fun i=>decide (L[i-k]?=some c))=qfu c L k
 | [],k=>by simp [List.range',qfu]
 | d::r,k=>by
   rw [yca,ygj,List.filter_cons]
   have ih:=qeA c r (k+1)
   have e:(List.range' (k+1) (r.length+1)).filter (fun i=>decide ((d::r)[i-k]?=some c))=(List.range' (k+1) (r.length+1)).filter (fun i=>decide (r[i-(k+1)]?=some c)):=by
     refine List.filter_congr fun i hi=>?_
     have:=(List.mem_range'_1.mp hi).1
     rw [show i-k=(i-(k+1))+1 by omega,ygk]
   rw [e,ih]
   show (if decide ((d::r)[k-k]?=some c)=true then _ else _)=if d=c then _ else _
   rw [ygl,ygm]
   by_cases h:d=c
   . rw [if_pos (by simpa using h),if_pos h]
   . rw [if_neg (by simpa using h),if_neg h]
def qf5 (x:Str) (c k:Nat):∀(n a:Nat) (st:Array Nat×Nat),st.2<=a ->
   (forIn (List.range' a n) st (StrLaws.occBody x ⟨#[c]⟩ x.length k)).run.fst.toList=st.1.toList++((List.range' a n).filter (fun i=>decide ((sg x)[i]?=some c))).take (k-st.1.size)
 | 0,a,st,_=>by simp [List.range']
 | n+1,a,st,h=>by
   rw [ygj,yfe,List.filter_cons]
   unfold StrLaws.occBody
   have one:=StrLaws.subAt_one x c a
   by_cases hc:(sg x)[a]?=some c
   . have hA:=one.mpr hc
     rw [show decide ((sg x)[a]?=some c)=true from decide_eq_true hc]
     by_cases hk:st.1.size<k
     . rw [if_pos ⟨⟨⟨hk,h⟩,hA.1⟩,hA.2⟩]
       have ih:=qf5 x c k n (a+1) (st.1.push a,a+1) (yax _)
       refine Eq.trans ih ?_
       rw [ycp,Array.size_push,ycq]
       congr 1
       obtain ⟨m,e⟩:∃m,k-st.1.size=m+1:=⟨k-st.1.size-1,by omega⟩
       rw [e,show k-(st.1.size+1)=m by omega]
       rfl
     . rw [if_neg fun z=>hk z.1.1.1]
       have ih:=qf5 x c k n (a+1) (st.1,st.2) (Nat.le_succ_of_le h)
       refine Eq.trans ih ?_
       rw [show k-st.1.size=0 by omega]
       simp
   . rw [if_neg (fun z=>hc (one.mp ⟨z.1.2,z.2⟩)),show decide ((sg x)[a]?=some c)=false from decide_eq_false hc]
     exact qf5 x c k n (a+1) (st.1,st.2) (Nat.le_succ_of_le h)
def qpI (x:Str) (c k:Nat):Builtin.Str.occurrences x ⟨#[c]⟩ 0 x.length k=(qfu c (sg x) 0).take k:=by
 rw [StrLaws.occ_eq]
 have h:=qf5 x c k (x.length+1-0) 0 (#[],0) (yax _)
 refine Eq.trans h ?_
 have e:=qeA c (sg x) 0
 rw [len_sg] at e
 simp only [Nat.sub_zero] at e ⊢
 rw [e]
 simp
def qe6 {x:Str} {A B C:List Nat} (h:sg x=A++B++C):Builtin.Str.strSub x A.length (A.length+B.length)=⟨B.toArray⟩:=by
 refine ext ?_
 show (Builtin.Str.strSub x A.length (A.length+B.length)).cps.toList=_
 rw [StrLaws.strSub_toList,show x.cps.toList=A++B++C from h,ygn,ycq,List.drop_left,List.take_left]
def qrt (x:Str) {c:Nat} (hc:c<256) (k:Nat):Txt.splitMax x ⟨#[c]⟩ (k:Int)=StrLaws.partsFrom x 1 0 ((qfu c (sg x) 0).take k):=by
 unfold Txt.splitMax
 have hl:limitOf x (k:Int)=k:=by
   unfold limitOf
   rw [if_neg (by omega),yer]
 have nil:(qfu c (sg x) 0).take k=[]->[x]=StrLaws.partsFrom x 1 0 ((qfu c (sg x) 0).take k):=fun e=>by
   rw [e]
   show [x]=[Builtin.Str.strSub x 0 x.length]
   rw [StrLaws.sub_whole]
 split
 . rename_i h
   refine nil ?_
   rw [yff,decide_eq_true_eq,decide_eq_true_eq] at h
   rcases h with h | h
   . have h:x.length<1:=h
     have:sg x=[]:=ydm.mp (by rw [len_sg];omega)
     rw [this]
     simp [qfu]
   . have e1:Builtin.Str.strKind ⟨#[c]⟩=1:=by
       unfold Builtin.Str.strKind
       rw [if_pos (by simp [hc])]
     have:1<=Builtin.Str.strKind x:=by
       unfold Builtin.Str.strKind
       split
       . decide
       . split<;>decide
     omega
 . rw [hl,qpI]
   split
   . rename_i h
     exact nil (List.isEmpty_iff.mp h)
   . rw [StrLaws.partsBetween_eq]
     rfl
def max_two {x a b r:Str} {c:Nat} (hc:c<256) (h:sg x=sg a++c::(sg b++c::sg r)) (ha:c∉sg a) (hb:c∉sg b):Txt.splitMax x ⟨#[c]⟩ 2=[a,b,r]:=by
 have e:Txt.splitMax x ⟨#[c]⟩ ((2:Nat):Int)=_:=qrt x hc 2
 refine Eq.trans e ?_
 have e1:qfu c (sg x) 0=(sg a).length::((sg a).length+1+(sg b).length)::qfu c (sg r) ((sg a).length+1+(sg b).length+1):=by
   rw [h,qgb,qir c _ _ ha]
   show (if c=c then _ else _)=_
   rw [if_pos rfl,qgb,qir c _ _ hb]
   show _::(if c=c then _ else _)=_
   rw [if_pos rfl,ygo]
 rw [e1]
 show [Builtin.Str.strSub x 0 (sg a).length,Builtin.Str.strSub x ((sg a).length+1) ((sg a).length+1+(sg b).length),Builtin.Str.strSub x ((sg a).length+1+(sg b).length+1) x.length]=_
 have z1:=qe6 (x:=x) (A:=[]) (B:=sg a) (C:=c::(sg b++c::sg r)) (by simpa using h)
 have z2:=qe6 (x:=x) (A:=sg a++[c]) (B:=sg b) (C:=c::sg r) (by rw [h];simp)
 have z3:=qe6 (x:=x) (A:=sg a++[c]++sg b++[c]) (B:=sg r) (C:=[]) (by rw [h];simp)
 have hl:x.length=(sg a).length+1+(sg b).length+1+(sg r).length:=by
   rw [<-len_sg,h]
   simp only [yby,yca]
   omega
 rw [hl]
 simp only [yby,yca,yfb,ygo] at z1 z2 z3
 rw [z1,z2,z3]
def split_cons {x a r:Str} {c:Nat} (h:sg x=sg a++c::sg r) (ha:c∉sg a):Txt.split x ⟨#[c]⟩=a::Txt.split r ⟨#[c]⟩:=by
 have hp:=PyProof.Rows.split_pos r ⟨#[c]⟩
 have ne:Txt.split r ⟨#[c]⟩≠[]:=fun z=>by rw [z] at hp;exact absurd hp (by decide)
 have e:x=Txt.join ⟨#[c]⟩ (a::Txt.split r ⟨#[c]⟩):=by
   refine ext ?_
   have e1:=congrArg sg (StrLaws.join_split r ⟨#[c]⟩)
   rw [sg_join] at e1
   rw [txt_join,ycw,jn_cons (by simpa using ne),e1,h]
 rw [e]
 refine split_join (by simp) fun w hw=>?_
 rcases ybd.mp hw with rfl | hw
 . exact ha
 . exact StrLaws.split_free r c w hw
def split_nofree {x:Str} {c:Nat} (h:c∉sg x):Txt.split x ⟨#[c]⟩=[x]:=by
 have:=split_join (c:=c) (ws:=[x]) (by simp) (fun w hw=>by rw [ydu.mp hw];exact h)
 exact this
end Tx
namespace L2
open PySem PySem.Spec PyProof.Rows
structure qlN (P:Program) (w:World) (K:PySem.W.Frag) (mg:Str->Option Value) (base:Heap) (C:Addr) (m:Str) (k:Nat) (ps:List Str) (sp:Sp) (f:Addr) (fd:FuncData):Prop where
 ok:qaN P w K mg base (CX1 P w) k f fd ps sp
 me:qre K C m f
 bd:qdC K fd ps []
structure qtp (P:Program) (w:World) (K:PySem.W.Frag) (mg:Str->Option Value) (base:Heap) (C:Addr) (k:Nat) (ps:List Str) (sp:Sp) (f:Addr) (fd:FuncData):Prop where
 ok:qaN P w K mg base (CX1 P w) k f fd ps sp
 mc:Mk K C f
 bd:qdC K fd ps []
section
variable {X:Cx} {k j:Nat} {f C:Addr} {fd:FuncData} {ps:List Str} {sp:Sp} {E:XK} {x m:Str} {p pos apos:Pos} {e o:Expr} {es:List Expr} {ta:TE} {t:TA}
def qeU {pl:Sem Bool} (he:PE X o ta) (c:Cls X.K C) (M:qlN X.prog X.w X.K X.mg X.base C m k ps sp f fd) (hr:qcZ j X.A) (hj:k<=j) (hp:qcf (CX1 X.prog X.w) X E) (ha:PA X (e::es) t)
 (hst:starEach (e::es) X.env=(false,eval e X.env)::starEach es X.env:=by rfl) (hpl:(backTo pos (starEach es X.env)).any (·.1)=false:=by rfl)
 (ht:eval (.Call (.Attribute o m apos) (e::es) [] pos) X.env=(do
   let ov <-eval o X.env
   standAt apos.atName
   let (f,first) <-holding [ov] (getMethod ov m pl)
   callWith pos f first (backTo pos (starEach (e::es) X.env)) (backToKw pos (keywordEach [] X.env))):=by rfl) :
 PE X (.Call (.Attribute o m apos) (e::es) [] pos) (qoe C m sp [] E ta t):=qn9 he c M.me M.ok (hr.mono hj) M.bd .nil hp ha hst hpl ht
end
def qrJ (K:PySem.W.Frag) (a b:Addr):It :=
 ⟨fun i H=>∃xs ys x y,SqT K H a xs/\SqL K H b ys/\xs[i]?=some x/\ys[i]?=some y,fun i H v H'=>∃t,v = .ref t/\H t=none/\∀xs ys x y,SqT K H a xs->SqL K H b ys->xs[i]?=some x->ys[i]?=some y->H'=upd H t (.tup [x,y]),
   fun i H=>∃xs,SqT K H a xs/\xs.length<=i⟩
def qkf {P:Program} {w:World} {K:PySem.W.Frag} {elts:List Expr} {x1:Nat} {pos:Pos} (a b z TI TO i1 i2:Addr) (D:ZipApart z TI TO i1 i2 a b):qpN P w K (.Tuple elts x1 pos) (qrJ K a b) [z,TI,TO,i1,i2] z
   (fun i h=>IsZip h z TI TO .none/\IsPair h TI (.ref i1) (.ref i2)/\(∃c d,IsPair h TO c d)/\IsTupIter h i1 a i/\h.IsListIter i2 b i) where
 mem:=by simp
 obj:=fun i h st c hc=>by
   obtain ⟨hz,h1,⟨c1,d1,h2⟩,⟨o1,e1,_,q1⟩,⟨o2,e2,_,q2⟩⟩:=st
   simp only [ybd,ydj,or_false] at hc
   rcases hc with rfl | rfl | rfl | rfl | rfl
   . exact ⟨_,hz,fun v y=>by have y':Data.fields _=Data.cell v:=y;cases y'⟩
   . exact ⟨_,h1,fun v y=>by have y':Data.seq _ _=Data.cell v:=y;cases y'⟩
   . exact ⟨_,h2,fun v y=>by have y':Data.seq _ _=Data.cell v:=y;cases y'⟩
   . exact ⟨o1,e1,fun v y=>by rw [q1] at y;cases y⟩
   . exact ⟨o2,e2,fun v y=>by rw [q2] at y;cases y⟩
 keep:=fun i h h' st k=>by
   obtain ⟨hz,h1,⟨c1,d1,h2⟩,⟨o1,e1,q1⟩,h4⟩:=st
   exact ⟨k z (by simp) _ hz,k TI (by simp) _ h1,⟨c1,d1,k TO (by simp) _ h2⟩,⟨o1,k i1 (by simp) _ e1,q1⟩,h4.at fun o q=>k i2 (by simp) o q⟩
 item:=by
   intro X hP hw hK hc i pins s σ H E I hf st hg
   subst hP hw hK
   obtain ⟨xs,ys,x,y,hqa,hqb,hx,hy⟩:=hg
   obtain ⟨itsa,rva,pa,hza⟩:=I.tuple hqa
   obtain ⟨itsb,rvb,pb,hzb⟩:=I.list hqb
   obtain ⟨u,hu,ru⟩:=rva.get hx
   obtain ⟨v,hv,rv⟩:=rvb.get hy
   obtain ⟨hz,h1,⟨c1,d1,h2⟩,h3,h4⟩:=st
   have fr:=I.hok.fresh (yax s.heap.objs.size)
   have lt:∀c∈[z,TI,TO,i1,i2],c<s.heap.objs.size:=fun c hc=>by
     simp only [ybd,ydj,or_false] at hc
     rcases hc with rfl | rfl | rfl | rfl | rfl
     . exact ydf hz
     . exact ydf h1
     . exact ydf h2
     . obtain ⟨_,q,_⟩:=h3;exact ydf q
     . obtain ⟨_,q,_⟩:=h4;exact ydf q
   refine qog D (Drw.tup D.l1i1) (Drw.list D.l2i2) hz h1 h2 ⟨h3,pa⟩ ⟨h4,pb.isList⟩ (x:=u) (y:=v) (by simpa using hu) (by simpa using hv) fun h' a1 a2 a3 a4 a5 hk=>⟨_,rfl,?_⟩
   refine wpAny_letOwnedTupleGo_zip (s:={ s with heap:=h' }) a1 fun g2 hz2 hs2=>?_
   have I1:Inv X pins σ (upd H s.heap.objs.size (.tup [x,y])) { s with heap:=s.heap.push { cls := .type "tuple",data := .seq #[u,v] },toks:=s.toks } :=
     I.laid (t':=s.toks) (fun b u e=>yde _ e) (yax _) ⟨by simp;decide,[u,v],.cons ru (.cons rv .nil),⟨_,ydd _ rfl,rfl,_,rfl⟩⟩
   have up:∀c∈[z,TI,TO,i1,i2],upd H s.heap.objs.size (.tup [x,y]) c=none:=fun c hc=>by
     rw [qap (ydh (lt c hc))]
     exact (hf c hc).1
   have I2:Inv X pins σ (upd H s.heap.objs.size (.tup [x,y])) { s with heap:=g2,toks:=s.toks }
     := Inv.turnedL (s:={ s with heap:=s.heap.push { cls := .type "tuple",data := .seq #[u,v] },toks:=s.toks }) (h':=g2) (t':=s.toks) (ch:=[z,TI,TO,i1,i2]) I1 (fun b o hb q=>by
     simp only [ybd,ydj,or_false,not_or] at hb
     rw [hs2.2 b hb.1]
     by_cases c:b=s.heap.objs.size
     . subst c
       have q0:(s.heap.push { cls := .type "tuple",data := .seq #[u,v] }).get? s.heap.objs.size=some { cls := .type "tuple",data := .seq #[u,v] }:=ydd _ rfl
       have q1:(s.heap.push { cls := .type "tuple",data := .seq #[u,v] }).get? s.heap.objs.size=some o:=q
       rw [q0] at q1
       cases q1
       exact a5
     . have q1:(s.heap.push { cls := .type "tuple",data := .seq #[u,v] }).get? b=some o:=q
       rw [Heap.get?_push_ne _ _ _ c] at q1
       exact hk b o hb.1 hb.2.2.1 hb.2.2.2.1 hb.2.2.2.2 q1) (fun c hc=>⟨up c hc,(hf c hc).2⟩)
   refine ⟨.ref s.heap.objs.size,_,I2,rfl,⟨_,rfl,fr,fun xs' ys' x' y' hxa hyb hx' hy'=>?_⟩,⟨hz2,?_,⟨_,_,(hs2.2 TO D.TOz).trans a2⟩,?_,a4.1.at fun o q=>(hs2.2 i2 D.i2z).trans q⟩,up⟩
   . rw [I.tuple_inj hxa hqa,hx] at hx'
     rw [I.list_inj hyb hqb,hy] at hy'
     cases hx'
     cases hy'
     rfl
   . exact (hs2.2 TI D.TIz).trans (hk TI _ D.TIz D.TITO D.TIi1 D.TIi2 h1)
   . obtain ⟨o,e,r⟩:=a3.1
     exact ⟨o,(hs2.2 i1 D.i1z).trans e,r⟩
 done:=by
   intro X hP hw hK hc i pins s σ H E I hf st hg
   subst hP hw hK
   obtain ⟨xs,hqa,hx⟩:=hg
   obtain ⟨itsa,rva,pa,hza⟩:=I.tuple hqa
   obtain ⟨hz,h1,⟨c1,d1,h2⟩,h3,h4⟩:=st
   have la:=rva.length
   refine qpJ (I.ok.hd hc) D (Drw.tup D.l1i1) hz h1 h2 ⟨h3,pa⟩ (by simp;omega) fun h' hk=>⟨rfl,I.turnedL (t':=s.toks) (ch:=[z,TI,TO,i1,i2]) (fun b o hb e=>?_) hf⟩
   simp only [ybd,ydj,or_false,not_or] at hb
   exact hk b o hb.1 hb.2.2.1 hb.2.2.2.1 hb.2.2.2.2 e
 self:=fun _ _ _ _ _ st h=>wpAny_pyIter_zip st.1 h
abbrev qrA (h:Heap) (l1:Addr):Heap:=h.push { cls := .type "tuple_iterator",data := .fields #[.ref l1,.int 0 0] }
abbrev qrK (h:Heap) (l1 l2:Addr):Heap:=(qrA h l1).push { cls := .type "list_iterator",data := .fields #[.ref l2,.int 0 0] }
abbrev qrM (h:Heap) (l1 l2:Addr):Heap:=(qrK h l1 l2).push { cls := .type "tuple",data := .seq #[.ref h.objs.size,.ref (qrA h l1).objs.size] }
abbrev qrF (h:Heap) (l1 l2:Addr):Heap:=(qrM h l1 l2).push { cls := .type "tuple",data := .seq #[.none,.none] }
abbrev qpS (h:Heap) (l1 l2:Addr):Heap:=(qrF h l1 l2).push { cls := .type "zip",data := .fields #[.none,.bool false,.bool false,.ref (qrK h l1 l2).objs.size,.ref (qrM h l1 l2).objs.size] }
def qjj (l1 l2:Addr) (xs ys:Array Value):Meets (Builtin.«zip.__new__» ⟨[.type "zip",.ref l1,.ref l2],[]⟩) (fun _ R s=>IsTup s.heap l1 xs/\s.heap.IsList l2 ys/\R (.ok (.ret (.ref (qrF s.heap l1 l2).objs.size))) { s with heap:=qpS s.heap l1 l2 }) :=
 .of_wp fun prog w A R s h=>by
   obtain ⟨hp,g,d,tk,os⟩:=s;obtain ⟨q1,q2,h⟩:=h;have hsub:=sub_zip
   have hL1:IsTup (Shared.heap ⟨hp,g,d,tk,os⟩) l1 xs:=q1
   have hL2:Heap.IsList (Shared.heap ⟨hp.push { cls := .type "tuple_iterator",data := .fields #[.ref l1,.int 0 0] },g,d,tk,os⟩) l2 ys:=Heap.IsList.push q2 _
   wp_walk using iter_tuple hL1,wpAny_pyIter_list hL2
   exact ⟨_,rfl,h⟩
def qle {prog:Program} {w:World} {A:Around} {E:Value->Shared->Prop} {s:Shared} {l1 l2:Addr} {xs ys:Array Value} {Q:Value->Shared->Prop} (q1:IsTup s.heap l1 xs) (q2:s.heap.IsList l2 ys)
   (h:∀g,IsZip g (s.heap.objs.size+4) (s.heap.objs.size+2) (s.heap.objs.size+3) .none->IsPair g (s.heap.objs.size+2) (.ref s.heap.objs.size) (.ref (s.heap.objs.size+1))->IsPair g (s.heap.objs.size+3) .none .none->IsTupIter g s.heap.objs.size l1 0->g.IsListIter (s.heap.objs.size+1) l2 0 ->
     (∀c o,s.heap.get? c=some o->g.get? c=some o)->Q (.ref (s.heap.objs.size+4)) { s with heap:=g }) :
   wpAny (model prog w) A (call (.type "zip") [.ref l1,.ref l2]) Q E s:=by
 refine callType_new F.called_zip (by decide) (F.typeCall_zip_2 _ _) (F.newCall_zip_2 _ _) (fun obj=>F.args_object_init_3 obj _ _) F.entry_zip_new (qjj l1 l2 xs ys) ⟨q1,q2,?_⟩
 have z1:(qrA s.heap l1).objs.size=s.heap.objs.size+1:=ydg ..
 have z2:(qrK s.heap l1 l2).objs.size=s.heap.objs.size+2:=by rw [ydg,z1]
 have z3:(qrM s.heap l1 l2).objs.size=s.heap.objs.size+3:=by rw [ydg,z2]
 have z4:(qrF s.heap l1 l2).objs.size=s.heap.objs.size+4:=by rw [ydg,z3]
 have k5:(qpS s.heap l1 l2).get? (qrF s.heap l1 l2).objs.size=some _:=ydd _ rfl
 have k4:(qpS s.heap l1 l2).get? (qrM s.heap l1 l2).objs.size=some _:=yde _ (ydd _ rfl)
 have k3:(qpS s.heap l1 l2).get? (qrK s.heap l1 l2).objs.size=some _:=yde _ (yde _ (ydd _ rfl))
 have k2:(qpS s.heap l1 l2).get? (qrA s.heap l1).objs.size=some _:=yde _ (yde _ (yde _ (ydd _ rfl)))
 have k1:(qpS s.heap l1 l2).get? s.heap.objs.size=some _:=yde _ (yde _ (yde _ (yde _ (ydd _ rfl))))
 show _/\_
 rw [z2,z3,z4] at k5;rw [z1,z2] at k3;rw [z3] at k4;rw [z1] at k2;rw [z4]
 exact ⟨⟨_,k5,rfl⟩,h _ k5 k3 k4 ⟨_,k1,rfl,rfl⟩ ⟨_,k2,rfl,rfl⟩ fun c o x=>yde _ (yde _ (yde _ (yde _ (yde _ x))))⟩
section
variable {X:Cx} {K:PySem.W.Frag}
def qp6 (K:PySem.W.Frag) (ta:TA):TI:=fun σ H R=>ta σ H fun vs H1=>∃a b xs ys,vs=[.ref a,.ref b]/\SqT K H1 a xs/\SqL K H1 b ys/\R (qrJ K a b) H1
def qoB {a b:Expr} {elts:List Expr} {x1:Nat} {tp:Pos} {ta:TA} {p pos:Pos} (hK:X.K=K) (hg:Gl X "zip") (hm:X.mg "zip" = none) (ha:PA X [a,b] ta) (hs:starEach [a,b] X.env=(false,eval a X.env)::starEach [b] X.env:=by rfl) (hs2:(backTo pos (starEach [b] X.env)).any (·.1)=false:=by rfl):PI X (.Tuple elts x1 tp) (.Call (.Name "zip" p) [a,b] [] pos) (qp6 K ta):=by
 subst hK
 intro pins s σ H R I h
 refine Call_ (qhu I hg hm PyProof.Rows.boot_zip (PyProof.Rows.callWith_type1 (thn (ha pos pins s σ H _ I h) fun us s1 ⟨vs,H1,I1,r1,q1⟩=>?_) hs hs2))
 obtain ⟨l1,l2,xs,ys,rfl,hqa,hqb,q⟩:=q1
 obtain ⟨u,v,rfl,ru,rv⟩:=qmi r1
 cases ru
 cases rv
 obtain ⟨itsa,rva,pa,hza⟩:=I1.tuple hqa
 obtain ⟨itsb,rvb,pb,hzb⟩:=I1.list hqb
 have la:l1<s1.heap.objs.size:=by obtain ⟨_,q,_⟩:=pa;exact ydf q
 have lb:l2<s1.heap.objs.size:=by obtain ⟨_,q,_⟩:=pb.isList;exact ydf q
 generalize en:s1.heap.objs.size=n at la lb
 refine qle pa pb.isList fun h' g1 g2 g3 g4 g5 hk=>?_
 rw [en] at g1 g2 g3 g4 g5 ⊢
 have I2:Inv X pins σ H1 { s1 with heap:=h' }:=I1.kept (t':=s1.toks) hk
 refine wpAny_pyIter_zip g1 ⟨n+4,[n+4,n+2,n+3,n,n+1],_,_,H1,rfl,I2,qkf l1 l2 (n+4) (n+2) (n+3) n (n+1) ?_,⟨g1,g2,⟨_,_,g3⟩,g4,g5⟩,fun c hb=>?_,q⟩
 . have la':@LT.lt Nat _ l1 n:=la
   have lb':@LT.lt Nat _ l2 n:=lb
   constructor<;>(intro z;exact absurd (show @Eq Nat _ _ from z) (by omega))
 . have:n<=c:=by
     simp only [ybd,ydj,or_false] at hb
     rcases hb with rfl | rfl | rfl | rfl | rfl<;>omega
   exact I1.fpOk (by omega) (I1.hok.fresh (by omega))
end
section
variable {K:PySem.W.Frag} {g:TG} {tt:TT} {te:TE} {nt:Nat} {caps:List Nat} {σ:L2.St} {H:Hp} {a b:Addr} {ta:TA} {Q:VK}
def qmn:qfy nt caps (qp6 K ta) g tt te σ H Q↔ta σ H fun vs H1=>∃a b xs ys,vs=[.ref a,.ref b]/\SqT K H1 a xs/\SqL K H1 b ys/\qdE (qrJ K a b) nt caps g tt te σ H1 Q:=Iff.rfl
def qqy {xs ys:List V} (hle:xs.length=ys.length) (Pv:Nat->List V->Hp->Prop) (h0:Pv 0 [] H) (hz:xs.length<=sizeLine) (hl:∀i zs H1,i<=xs.length->Pv i zs H1->SqT K H1 a xs/\SqL K H1 b ys/\zs.length<=i)
   (hs:∀i x y zs H1 t,xs[i]?=some x->ys[i]?=some y->Pv i zs H1->H1 t=none->∀(R:VK) (R':Hp->Prop),(∀v H2,Pv (i+1) (zs++[v]) H2->R v H2)->(∀H2,Pv (i+1) zs H2->R' H2) ->
     g (.ref t) (qbr nt caps σ) (upd H1 t (.tup [x,y])) fun σ4 H4=>tt σ4 H4 fun b H5=>if b=true then te σ4 H5 R else R' H5)
   (hd:∀zs H1,Pv xs.length zs H1->∀p,H1 p=none->Q (.ref p) (upd H1 p (.lst zs))):qdE (qrJ K a b) nt caps g tt te σ H Q:=by
 refine ⟨fun i m zs H1=>m=xs.length-i/\i<=xs.length/\Pv i zs H1,⟨_,rfl,ych _,h0⟩,?_⟩
 rintro i m zs H2 ⟨rfl,hi,p⟩
 obtain ⟨hqa,hqb,hlen⟩:=hl i zs H2 hi p
 by_cases hlt:i<xs.length
 . have hx:xs[i]?=some xs[i]:=ybu hlt
   have hy:ys[i]?=some (ys[i]'(by omega)):=ybu _
   refine .inr ⟨⟨xs,ys,_,_,hqa,hqb,hx,hy⟩,by omega,fun x H3 y=>?_⟩
   obtain ⟨t,rfl,ht,y⟩:=y
   rw [y _ _ _ _ hqa hqb hx hy]
   exact hs i _ _ zs H2 t hx hy p ht _ _ (fun v H4 q=>⟨xs.length-(i+1),by omega,rfl,hlt,q⟩) fun H4 q=>⟨xs.length-(i+1),by omega,rfl,hlt,q⟩
 . obtain rfl:i=xs.length:=by omega
   exact .inl ⟨⟨xs,hqa,yax _⟩,by omega,fun p' hp'=>hd zs H2 p p' hp'⟩
end
end L2
namespace L2
open PySem PySem.Spec PyProof.Rows
def qbs:Sp:=fun _ _ _ _=>False
structure qte (P:Program) (w:World) (K:PySem.W.Frag) (mg:Str->Option Value) (base:Heap) (C:Addr) (m:Str) (k:Nat) (ps:List Str) (sp:Sp) (f:Addr) (fd:FuncData):Prop where
 ok:qaN P w K mg base CX0 k f fd ps sp
 me:qre K C m f
 bd:qdC K fd ps []
structure qpC (P:Program) (w:World) (K:PySem.W.Frag) (mg:Str->Option Value) (base:Heap) (C:Addr) (k:Nat) (ps:List Str) (sp:Sp) (f:Addr) (fd:FuncData):Prop where
 ok:qaN P w K mg base CX0 k f fd ps sp
 mc:Mk K C f
 bd:qdC K fd ps []
section
variable {X:Cx} {k j:Nat} {f C:Addr} {fd:FuncData} {ps:List Str} {sp:Sp} {x m:Str} {p pos apos:Pos} {e o:Expr} {es:List Expr} {ta:TE} {t:TA}
def qlZ (M:qpC X.prog X.w X.K X.mg X.base C k ps sp f fd) (hr:qcZ j X.A) (hj:k+1<=j) (hg:Gl X x) (hm:X.mg x=some (.ref C)) (ha:PA X (e::es) t) (hdb:(x==("__debug__" : Str))=false:=by decide)
 (he:starEach (e::es) X.env=(false,eval e X.env)::starEach es X.env:=by rfl) (hpl:(backTo pos (starEach es X.env)).any (·.1)=false:=by rfl) :
 PE X (.Call (.Name x p) (e::es) [] pos) (qoM C sp [] E0 t):=qpn M.mc M.ok (hr.mono hj) hg hm M.bd .nil qqm ha hdb he hpl
end
def qif:List (Str×List Str):=[("let",["new", "text"]),("hits",["new", "family"]),("rests",["new", "family"]),("either",["new", "family", "family"]),("both",["new", "family", "family"]),("in",["new", "family", "name"]),("out",["new", "family", "name"]),("show",["family"]),("says",["family", "set"]),("look",["family", "set"]),("held",["family", "family"]),("compare",["family", "name", "name"]),("turns",["family"]),("ranks",["family"]),("weights",["family"])]
def wanted (z:Str):Option (List Str):=qif.lookup z
structure Wnt (P:Program) (w:World) (K:PySem.W.Frag) (aW:Addr):Prop where
 kv:∃kvs,KDt P w K aW kvs/\∀z ks,wanted z=some ks->∃t,qc5 kvs (Sum.inr z)=some (.ref t)/\∀H,SqT K H t (sV ks)
structure Prt (z:Str) (d:Str) (r ks:List Str):Prop where
 hd:(Txt.split z " ")[0]?=some d
 kd:wanted d=some ks
 ps:(if d = "let" then Txt.splitMax z " " 2 else Txt.split z " ")=d::r
 ln:r.length=ks.length
 sz:z.length<=9000
inductive Th where
 | nm (z:Str) | fm (fs:List Nat) | nu (a:Nat)
def ThV (H:Hp):Th->V->Prop
 | .nm z,v=>v = .str z
 | .fm fs,v=>∃p,v = .ref p/\H p=some (.lst (nV fs))
 | .nu a,v=>v = .int (a:Nat)
def ThV.same {H H':Hp} (s:qav H H'):∀{th:Th} {v:V},ThV H th v->ThV H' th v
 | .nm _,_,h=>h
 | .fm _,_,⟨p,e,h⟩=>⟨p,e,s _ _ h⟩
 | .nu _,_,h=>h
structure Fml (n:Nat) (fs:List Nat):Prop where
 rise:fs.Pairwise (· < ·)
 lt:∀b∈fs,b<2^n
 few:fs.length<=70
inductive Thg (ws:List Str) (m:List (Str×List Nat)):Str->Str->Th->Prop
 | new {w:Str}:Tx.Wd w->Thg ws m "new" w (.nm w)
 | fam {w:Str} {fs:List Nat}:m.lookup w=some fs->Thg ws m "family" w (.fm fs)
 | name {w:Str}:w∈ws->Thg ws m "name" w (.nu (ws.idxOf w))
 | set {a:Nat}:a<2^ws.length->Thg ws m "set" (Tx.sT ws a) (.nu a)
 | text {fs:List Nat}:Fml ws.length fs->Thg ws m "text" (Tx.fT ws fs) (.fm fs)
def qnq (pw pk:Addr):List (Str×V):=[("words",.ref pw),("kept",.ref pk)]
def kne:¬(("words" : Str) = "kept"):=by decide +kernel
def qfT (pw pk:Addr):(qnq pw pk).lookup ("words" : Str)=some (.ref pw):=by
 unfold qnq
 rw [yfd]
 simp
def qfU (pw pk:Addr):(qnq pw pk).lookup ("kept" : Str)=some (.ref pk):=by
 unfold qnq
 rw [yfd,show (("kept" : Str) == "words")=false from beq_eq_false_iff_ne.mpr fun e=>kne e.symm]
 simp
def qdf (pw pk:Addr) {m:Str} (h1:(m==("words" : Str))=false) (h2:(m==("kept" : Str))=false):(qnq pw pk).lookup m=none:=by
 unfold qnq
 simp only [List.lookup,h1,h2]
def qlY (pw pk:Addr):qgM "kept" (.ref pk) (qgM "words" (.ref pw) [])=qnq pw pk:=by
 show (if ("words" : Str) = "kept" then _ else _)=_
 rw [if_neg kne]
 rfl
def Kps (H:Hp) (kvs:List (Key×V)) (m:List (Str×List Nat)):Prop :=
 kvs.length=m.length/\∀n:Str,match m.lookup n with
   | some fs=>∃p,qc5 kvs (Sum.inr n)=some (.ref p)/\H p=some (.lst (nV fs))
   | none=>qc5 kvs (Sum.inr n)=none
def Kps.same {H H':Hp} {kvs:List (Key×V)} {m:List (Str×List Nat)} (k:Kps H kvs m) (s:∀p fs,H p=some (.lst (nV fs))->H' p=some (.lst (nV fs))):Kps H' kvs m:=by
 refine ⟨k.1,fun n=>?_⟩
 have h:=k.2 n
 cases e:m.lookup n with
 | none=>rw [e] at h;exact h
 | some fs =>
   rw [e] at h
   obtain ⟨p,h1,h2⟩:=h
   exact ⟨p,h1,s p fs h2⟩
def Kps.get {H:Hp} {kvs:List (Key×V)} {m:List (Str×List Nat)} (k:Kps H kvs m) {n:Str} {fs:List Nat} (e:m.lookup n=some fs):∃p,qc5 kvs (Sum.inr n)=some (.ref p)/\H p=some (.lst (nV fs)):=by
 have h:=k.2 n
 rw [e] at h
 exact h
def Kps.no {H:Hp} {kvs:List (Key×V)} {m:List (Str×List Nat)} (k:Kps H kvs m) {n:Str} (e:m.lookup n=none):qc5 kvs (Sum.inr n)=none:=by
 have h:=k.2 n
 rw [e] at h
 exact h
def qlP:List (Str×List Nat)->Str->List Nat->List (Str×List Nat)
 | [],n,fs=>[(n,fs)]
 | (x,gs)::r,n,fs=>if x=n then (x,fs)::r else (x,gs)::qlP r n fs
def qb1 (n x:Str) (fs:List Nat):∀m:List (Str×List Nat),(qlP m n fs).lookup x=if x=n then some fs else m.lookup x
 | []=>by
   show List.lookup x [(n,fs)]=_
   by_cases h:x=n
   . simp [h]
   . simp [List.lookup,h,beq_eq_false_iff_ne.mpr h]
 | (y,gs)::r=>by
   have ih:=qb1 n x fs r
   show List.lookup x (if y=n then (y,fs)::r else (y,gs)::qlP r n fs)=_
   by_cases h:y=n
   . rw [if_pos h]
     by_cases g:x=n
     . subst h;subst g;simp
     . have:(x==y)=false:=beq_eq_false_iff_ne.mpr fun e=>g (e.trans h)
       simp only [List.lookup,this,if_neg g]
   . rw [if_neg h]
     by_cases g:x=y
     . subst g;simp [if_neg h]
     . have:(x==y)=false:=beq_eq_false_iff_ne.mpr g
       simp only [List.lookup,this]
       exact ih
def qb0 (n:Str) (fs:List Nat):∀m:List (Str×List Nat),(qlP m n fs).length=m.length+if (m.lookup n).isSome then 0 else 1
 | []=>rfl
 | (y,gs)::r=>by
   have ih:=qb0 n fs r
   show (if y=n then (y,fs)::r else (y,gs)::qlP r n fs).length=_
   by_cases h:y=n
   . rw [if_pos h]
     subst h
     simp
   . rw [if_neg h,yca,ih,yca]
     have:(n==y)=false:=beq_eq_false_iff_ne.mpr fun e=>h e.symm
     simp only [List.lookup,this]
     omega
def qjA (kvs:List (Key×V)) (k:Key) (v:V):(qhM kvs k v).length=kvs.length+if (qc5 kvs k).isSome then 0 else 1:=by
 unfold qhM
 rw [qdj]
 cases (qc5 kvs k).isSome<;>simp
def Kps.put {H:Hp} {kvs:List (Key×V)} {m:List (Str×List Nat)} (k:Kps H kvs m) {n:Str} {fs:List Nat} {p:Addr} (h:H p=some (.lst (nV fs))):Kps H (qhM kvs (Sum.inr n) (.ref p)) (qlP m n fs):=by
 refine ⟨?_,fun x=>?_⟩
 . rw [qjA,qb0,k.1]
   have e:=k.2 n
   cases c:m.lookup n with
   | none=>rw [c] at e;rw [e];rfl
   | some gs =>
     rw [c] at e
     obtain ⟨q,e1,_⟩:=e
     rw [e1]
     rfl
 . rw [qb1,qmF]
   by_cases g:x=n
   . rw [if_pos g,if_pos (by rw [g])]
     exact ⟨p,rfl,h⟩
   . rw [if_neg g,if_neg (fun e=>g (Sum.inr.inj e))]
     exact k.2 x
structure qcY (C:Addr) (H:Hp) (d pk:Addr) (ws:List Str) (m:List (Str×List Nat)):Prop where
 ob:∃dx pw,H d=some (.ins C dx (qnq pw pk))/\H pw=some (.lst (sV ws))
 dc:∃kvs,H pk=some (.dK kvs)/\Kps H kvs m
 wd:Tx.Wds ws
 fm:∀n fs,m.lookup n=some fs->Fml ws.length fs
 ms:m.length<=20
def qcY.same {C:Addr} {H H':Hp} {d pk:Addr} {ws:List Str} {m:List (Str×List Nat)} (D:qcY C H d pk ws m) (s:qav H H'):qcY C H' d pk ws m:=by
 obtain ⟨dx,pw,h1,h2⟩:=D.ob
 obtain ⟨kvs,h3,h4⟩:=D.dc
 exact ⟨⟨dx,pw,s _ _ h1,s _ _ h2⟩,⟨kvs,s _ _ h3,h4.same fun p fs h=>s _ _ h⟩,D.wd,D.fm,D.ms⟩
def SmB (pk:Addr) (H H':Hp):Prop:=∀b o,H b=some o->b≠pk->H' b=some o
section
variable {K:PySem.W.Frag} {D:qe7} {σ:L2.St} {H:Hp} {u:TS} {ta tv td ty:TE} {f:Str}
def qmB:qiX (qsa K ta tv f) u D σ H↔tv σ H fun y H1=>ta σ H1 fun x H2=>∃a C dx fs,x = .ref a/\H2 a=some (.ins C dx fs)/\Cls K C/\qdx K C f/\fs.length<1000/\u D σ (upd H2 a (.ins C dx (qgM f y fs))):=Iff.rfl
def qko:qiX (qpu td ty tv) u D σ H↔tv σ H fun v H1=>td σ H1 fun x H2=>ty σ H2 fun y H3=>∃a H4,x = .ref a/\qpW H3 a y v H4/\u D σ H4:=Iff.rfl
end
def qgQ (H:Hp) (ths:List Th) (vs:List V):Prop:=ths.length=vs.length/\∀(i:Nat) (th:Th) (v:V),ths[i]?=some th->vs[i]?=some v->ThV H th v
def qgQ.same {H H':Hp} {ths:List Th} {vs:List V} (h:qgQ H ths vs) (s:qav H H'):qgQ H' ths vs:=⟨h.1,fun i th v h1 h2=>(h.2 i th v h1 h2).same s⟩
def qgQ.nil {H:Hp}:qgQ H [] []:=⟨rfl,fun i th v h1 h2=>by cases h1⟩
def qgQ.snoc {H:Hp} {ths:List Th} {vs:List V} {th:Th} {v:V} (h:qgQ H ths vs) (h2:ThV H th v):qgQ H (ths++[th]) (vs++[v]):=by
 refine ⟨by rw [yby,yby,h.1];rfl,fun i t u h3 h4=>?_⟩
 by_cases c:i<ths.length
 . rw [yep c] at h3
   rw [yep (by rw [<-h.1];exact c)] at h4
   exact h.2 i t u h3 h4
 . rw [yen (by omega)] at h3
   rw [yen (by rw [<-h.1];omega),<-h.1] at h4
   cases e:i-ths.length with
   | zero =>
     rw [e] at h3 h4
     cases h3
     cases h4
     exact h2
   | succ j=>rw [e] at h3;cases h3
def qgQ.cons {H:Hp} {ths:List Th} {vs:List V} {th:Th} (h:qgQ H (th::ths) vs):∃v us,vs=v::us/\ThV H th v/\qgQ H ths us:=by
 cases vs with
 | nil=>exact absurd h.1 (by simp)
 | cons v us=>exact ⟨v,us,rfl,h.2 0 th v rfl rfl,by have:=h.1;simpa using this,fun i t u h1 h2=>h.2 (i+1) t u (by simpa using h1) (by simpa using h2)⟩
def qgQ.empty {H:Hp} {vs:List V} (h:qgQ H [] vs):vs=[]:=ydm.mp h.1.symm
def qmx (ws:List Str) (m:List (Str×List Nat)) (ks r:List Str) (ths:List Th):Prop:=ths.length=ks.length/\∀(i:Nat) (k w:Str) (th:Th),ks[i]?=some k->r[i]?=some w->ths[i]?=some th->Thg ws m k w th
end L2
namespace L2
open PySem PySem.Spec PyProof.Rows
def pre:List Str->Str->Str
 | [],w=>w
 | d::ds,w=>d ++ " " ++ pre ds w
def qns (x y:Str):Tx.sg (x++y)=Tx.sg x++Tx.sg y:=by
 show (x.cps++y.cps).toList=_
 simp [Tx.sg]
def qkj (d:Str) (ds:List Str) (w:Str):Tx.sg (pre (d::ds) w)=Tx.sg d++32::Tx.sg (pre ds w):=by
 show Tx.sg (d ++ " " ++ pre ds w)=_
 rw [qns,qns,Tx.lit_space,ycq]
 rfl
def qeP:∀(ds:List Str) (w:Str),(∀d∈ds,32∉Tx.sg d)->Txt.split (pre ds w) " " = ds++Txt.split w " "
 | [],w,_=>rfl
 | d::ds,w,h=>by
   rw [Tx.lit_space,Tx.split_cons (qkj d ds w) (h d ybb),<-Tx.lit_space,qeP ds w fun x hx=>h x (ybe _ hx)]
   rfl
def qhR {d w:Str} {ds ks:List Str} (h1:wanted d=some ks) (hd:¬d = "let") (hf:∀x∈d::ds,32∉Tx.sg x) (hw:32∉Tx.sg w) (hl:ds.length+1=ks.length) (hz:(pre (d::ds) w).length<=9000):Prt (pre (d::ds) w) d (ds++[w]) ks:=by
 have e:Txt.split (pre (d::ds) w) " " = d::(ds++[w]):=by
   rw [qeP _ _ hf,Tx.lit_space,Tx.split_nofree hw]
   rfl
 exact ⟨by rw [e];rfl,h1,by rw [if_neg hd,e],by rw [yby,<-hl];rfl,hz⟩
def qn0 {n w:Str} (hn:32∉Tx.sg n) (hz:(pre ["let",n] w).length<=9000):Prt (pre ["let",n] w) "let" [n,w] ["new", "text"]:=by
 have hl:32∉Tx.sg ("let" : Str):=by decide +kernel
 refine ⟨?_,by decide +kernel,?_,rfl,hz⟩
 . rw [qeP _ _ fun d hd=>?_]
   . rfl
   . rcases ybd.mp hd with rfl | hd
     . exact hl
     . rw [ydu.mp hd]
       exact hn
 . rw [if_pos rfl,Tx.lit_space]
   refine Tx.max_two (by decide) ?_ hl hn
   rw [qkj,qkj]
   rfl
def qst:R2:=fun x y H Q=>(∃z:Str,x = .str z/\y = .int 0/\Q (.str Str.empty) H)\/qok x y H Q
def qol {X:Cx}:OpR X (binaryOp .Mult) (fun x y H Q=>∃z:Str,x = .str z/\y = .int 0/\Q (.str Str.empty) H):=by
 intro pins s σ H x y v u Q I rx ry h
 obtain ⟨z,rfl,rfl,q⟩:=h
 obtain ⟨t,rfl⟩:=rx
 obtain ⟨t',rfl⟩:=ry
 exact P.mul_str_none (by decide) (by decide) ⟨.str _,H,I.tok _,⟨_,rfl⟩,q⟩
def qph {X:Cx}:OpR X (binaryOp .Mult) qst:=qol.or qkq
def qgI {ws:List Str} {m:List (Str×List Nat)} {k w:Str} {th:Th} (h:Thg ws m k w th):qmx ws m [k] [w] [th]:=by
 refine ⟨rfl,fun i k' w' th' h1 h2 h3=>?_⟩
 cases i with
 | zero=>cases h1;cases h2;cases h3;exact h
 | succ j=>cases h1
def qmx.cons {ws:List Str} {m:List (Str×List Nat)} {k w:Str} {th:Th} {ks r:List Str} {ths:List Th} (h:Thg ws m k w th) (t:qmx ws m ks r ths):qmx ws m (k::ks) (w::r) (th::ths):=by
 refine ⟨by rw [yca,yca,t.1],fun i k' w' th' h1 h2 h3=>?_⟩
 cases i with
 | zero=>cases h1;cases h2;cases h3;exact h
 | succ j=>exact t.2 j k' w' th' (by simpa using h1) (by simpa using h2) (by simpa using h3)
end L2
namespace L2
open PySem PySem.Spec PyProof.Rows
end L2
namespace L2
open PySem PySem.Spec PyProof.Rows
def qb3 {K:PySem.W.Frag} {t:Addr} {od:Option Addr} {its:Array Value} {n:Nat} {sl:Array (Option Value)} {ks:List Str} (l:K.lookup t=some ⟨.type "tuple",od,.seq its n,sl⟩) (hs:its.size<=100000) (v:qaV (sV ks) its.toList):∀H,SqT K H t (sV ks) :=
 fun H => .inr ⟨_,its,n,l,rfl,rfl,qaE hs,v⟩
def qrG (K:PySem.W.Frag) (w:World):List (Str×List Str)->List DictEntry->Prop
 | [],[]=>True
 | (z,ks)::r,e::es=>(∃(tk:Tok) (t:Addr),e=⟨hashStr w z,.str z tk,.ref t⟩/\∀H,SqT K H t (sV ks))/\qrG K w r es
 | _,_=>False
def qkZ {P:Program} {w:World} {K:PySem.W.Frag}:∀{S:List (Str×List Str)} {es:List DictEntry},qrG K w S es ->
   ∃(kvs:List (Key×V)) (vs:List (Key×Value)),KV kvs vs/\(∀e∈es,∃k,(qa1 P w).is k e.key=true/\e.hash=(qa1 P w).hash k)/\Pairs (qa1 P w) es vs/\vs.map (·.1)=S.map (fun p=>Sum.inr p.1) /\
     ∀z ks,S.lookup z=some ks->∃t,qc5 kvs (Sum.inr z)=some (.ref t)/\∀H,SqT K H t (sV ks)
 | [],[],_=>⟨[],[],.nil,fun e h=>(by cases h),.nil,rfl,fun z ks h=>by cases h⟩
 | [],_::_,h=>h.elim
 | _::_,[],h=>h.elim
 | (y,us)::S,e::es,h=>by
   obtain ⟨⟨tk,t,rfl,ht⟩,hr⟩:=h
   obtain ⟨kvs,vs,h1,h2,h3,h4,h5⟩:=qkZ (P:=P) hr
   refine ⟨(Sum.inr y,.ref t)::kvs,(Sum.inr y,.ref t)::vs,.cons ⟨rfl,rfl⟩ h1,fun e he=>?_,.cons ?_ rfl h3,by rw [ycw,ycw,h4],fun z ks hz=>?_⟩
   . rcases ybd.mp he with rfl | he
     . exact ⟨Sum.inr y,(by show Value.isStrOf y (.str y tk)=true;simp [Value.isStrOf]),rfl⟩
     . exact h2 e he
   . show Value.isStrOf y (.str y tk)=true
     simp [Value.isStrOf]
   . rw [yfd] at hz
     by_cases c:z=y
     . subst c
       simp at hz
       subst hz
       exact ⟨t,by unfold qc5;simp,ht⟩
     . rw [beq_eq_false_iff_ne.mpr c] at hz
       obtain ⟨t',e1,e2⟩:=h5 z ks hz
       refine ⟨t',?_,e2⟩
       unfold qc5 at e1 ⊢
       rw [List.find?_cons_of_neg (by simp only [decide_eq_true_eq];exact fun e=>c (Sum.inr.inj e).symm)]
       exact e1
def qrk {P:Program} {w:World} {K:PySem.W.Frag} {aW:Addr} {es:Array DictEntry} {ep:Nat} (l:K.lookup aW=some ⟨.type "dict",none,.dict es ep,#[]⟩) (hn:(aW==sysModules)=false) (h:qrG K w qif es.toList):Wnt P w K aW:=by
 obtain ⟨kvs,vs,h1,h2,h3,h4,h5⟩:=qkZ (P:=P) h
 refine ⟨kvs,⟨hn,_,vs,l,h1,fun hp hg=>⟨_,es,ep,hg,⟨rfl,rfl,rfl⟩,rfl,fun e he=>h2 e (yei.mpr he),h3,?_⟩⟩,h5⟩
 rw [h4]
 have nd:(qif.map (·.1)).Nodup:=by decide +kernel
 have:qif.map (fun p=>(Sum.inr p.1:Key))=(qif.map (·.1)).map Sum.inr:=by rw [yds];rfl
 rw [this]
 exact List.Pairwise.map _ (fun a b hab e=>hab (Sum.inr.inj e)) nd
end L2
namespace L2
open PySem PySem.Spec PyProof.Rows
section
variable {prog:Program} {w:World} {A:Around} {E:Value->Shared->Prop} {s:Shared}
end
section
variable {X:Cx} {pos:Pos}
def qs5 (K:PySem.W.Frag) (n:Nat) (t:TGs):TG:=fun v σ H Q=>∃a xs,v = .ref a/\SqL K H a xs/\xs.length=n/\t xs σ H Q
end
end L2
namespace L2
open PySem PySem.Spec PyProof.Rows
section
variable {X:Cx} {K:PySem.W.Frag}
end
end L2
namespace L2
open PySem PySem.Spec PyProof.Rows
section
variable {K:PySem.W.Frag} {g:TG} {σ:L2.St} {H:Hp} {a:Addr} {nt:Nat} {caps:List Nat} {tt:TT} {te:TE} {Q:VK}
def LsS (H:Hp) (LL:List (List Str)) (ps:List Addr):Prop:=ps.length=LL.length/\∀(i:Nat) (r:Addr) (L:List Str),ps[i]?=some r->LL[i]?=some L->H r=some (.lst (sV L))
def LsS.mono {H H':Hp} {LL:List (List Str)} {ps:List Addr} (h:LsS H LL ps) (s:qav H H'):LsS H' LL ps:=⟨h.1,fun i r L e1 e2=>s _ _ (h.2 i r L e1 e2)⟩
def LsS.snoc {H:Hp} {LL:List (List Str)} {ps:List Addr} {r:Addr} {L:List Str} (h:LsS H LL ps) (hr:H r=some (.lst (sV L))):LsS H (LL++[L]) (ps++[r]):=by
 refine ⟨by rw [yby,yby,h.1];rfl,fun i r' L' e1 e2=>?_⟩
 rcases Nat.lt_trichotomy i ps.length with z | z | z
 . rw [yep z] at e1
   rw [yep (by rw [<-h.1];exact z)] at e2
   exact h.2 i r' L' e1 e2
 . subst z
   rw [yen (yax _),ygl] at e1
   rw [h.1,yen (yax _),ygl] at e2
   cases e1
   cases e2
   exact hr
 . rw [ydw (by rw [yby,yex];omega)] at e1
   cases e1
end
end L2
namespace Tx
open PySem PySem.Builtin PySem.Builtin.Str
def qiG {x y:Str} (r:List Nat):∀(l:List Nat) (st:Array Nat×Nat),(∀j∈l,subAt x y j=false)->(forIn (l++r) st (StrLaws.occBody x y x.length 1):Id _)=forIn r st (StrLaws.occBody x y x.length 1)
 | [],st,_=>rfl
 | j::l,st,h=>by
   rw [yfa,yfe]
   unfold StrLaws.occBody
   rw [if_neg fun z=>by have:=h j ybb;rw [this] at z;exact absurd z.2 (by decide)]
   exact qiG r l st fun i hi=>h i (ybe _ hi)
def qiV {x y:Str}:∀(l:List Nat) (st:Array Nat×Nat),¬st.1.size<1->(forIn l st (StrLaws.occBody x y x.length 1))=(pure st:Id _)
 | [],st,_=>rfl
 | j::l,st,h=>by
   rw [yfe]
   unfold StrLaws.occBody
   rw [if_neg fun z=>h z.1.1.1]
   exact qiV l st h
def qlq {x y:Str} {i:Nat} (h1:i+y.length<=x.length) (h2:subAt x y i=true) (h3:∀j,j<i->subAt x y j=false):occurrences x y 0 x.length 1=[i]:=by
 rw [StrLaws.occ_eq]
 have e:List.range' 0 (x.length+1-0)=List.range' 0 i++i::List.range' (i+1) (x.length-i):=by
   rw [show x.length+1-0=i+(x.length-i+1) by omega,<-List.range'_append_1,ygo,ygj]
 rw [e,qiG _ _ _ fun j hj=>h3 j (by have:=List.mem_range'_1.mp hj;omega),yfe]
 unfold StrLaws.occBody
 rw [if_pos ⟨⟨⟨by decide,ych _⟩,h1⟩,h2⟩]
 show (forIn (List.range' (i+1) (x.length-i)) (#[i],i+y.length) (StrLaws.occBody x y x.length 1):Id _).run.fst.toList=[i]
 rw [qiV _ _ (by simp)]
 rfl
def repl_one {x y a b:Str} {c:Nat} {r:List Nat} (hx:sg x=sg a++sg y++sg b) (hy:sg y=c::r) (ha:c∉sg a):occurrences x y 0 x.length 1=[a.length]/\∀z:Str,glued z (partsBetween x [a.length] y.length)=a++z++b:=by
 have hl:x.length=a.length+y.length+b.length:=by rw [<-len_sg,hx,yby,yby,len_sg,len_sg,len_sg]
 refine ⟨qlq (by omega) ?_ fun j hj=>?_,fun z=>?_⟩
 . have e:x.cps.extract a.length (a.length+y.length)=y.cps:=Array.ext' (by
     rw [ycl]
     show (List.extract (sg x) _ _)=sg y
     rw [hx,List.extract_eq_drop_take,ygn,<-len_sg a,ycq,List.drop_left,<-len_sg y,List.take_left])
   unfold subAt
   rw [e]
   exact beq_self_eq_true _
 . refine ygc.mpr fun h=>ha ?_
   have h:=eq_of_beq (show (x.cps.extract j (j+y.length)==y.cps)=true from h)
   have h:=congrArg Array.toList h
   rw [ycl] at h
   have h:List.extract (sg x) j (j+y.length)=sg y:=h
   rw [List.extract_eq_drop_take,ygn,hy] at h
   have hj':j<(sg a).length:=by rw [len_sg];exact hj
   have e0:(sg x)[j]?=some c:=by
     have:=congrArg (fun l:List Nat=>l[0]?) h
     simp only [ygm] at this
     rw [ycu] at this
     split at this
     . rw [yct,Nat.add_zero] at this
       exact this
     . cases this
   rw [hx,ycq,yep hj'] at e0
   exact ybv e0
 . have z1:=qe6 (x:=x) (A:=[]) (B:=sg a) (C:=sg y++sg b) (by rw [hx];simp)
   have z3:=qe6 (x:=x) (A:=sg a++sg y) (B:=sg b) (C:=[]) (by rw [hx];simp)
   rw [yby,len_sg,len_sg,len_sg] at z3
   rw [yfb,ygo,len_sg] at z1
   show glued z [strSub x 0 a.length,strSub x (a.length+y.length) x.length]=_
   rw [hl,z1,z3]
   exact ext (by simp [glued,sg,Tx.sg_app])
end Tx
namespace L2
open PySem PySem.Spec PyProof.Rows PySem.Builtin PySem.Builtin.Str
section
variable {prog:Program} {w:World} {A:Around} {E:Value->Shared->Prop} {s:Shared} {x y z r:Str} {t u v k:Tok} {Q:Value->Shared->Prop}
def qjo {i:Nat} (hu:u≠0) (hv:v≠0) (huv:u≠v) (ho:occurrences x y 0 x.length 1=[i]) (hy:(y.length==0)=false) (hg:glued z (partsBetween x [i] y.length)=r) (hs:y=z->r=x) (hb:x.length+z.length<=100000) (hr:r.length<=100000)
   (hnb:NoneBooked s.heap) (hq:∀t' k',Q (.str r t') { s with toks:=k' }):wpAny (model prog w) A (call (.builtin "str.replace") [.str x t,.str y u,.str z v,.int 1 k]) Q E s:=by
 have hl:tooLong (x.length+[i].length*z.length)=false:=by
   unfold tooLong
   rw [sizeLine_eq]
   exact decide_eq_false (by simp;omega)
 have h0:(u==0||v==0)=false:=by simp [hu,hv]
 have huv':(u==v)=false:=by simp [huv]
 have g:GivesAt (fun s=>NoneBooked s.heap) («str.replace» ⟨[.str x t,.str y u,.str z v,.int 1 k],[]⟩) (if (y==z)=true then .either (.val (.str x t)) (.str r) else .str r):=by
   have e:«str.replace» ⟨[.str x t,.str y u,.str z v,.int 1 k],[]⟩=(do
       let limit <-countLimit "str.replace" (some (.int 1 k)) (x.length+1)
       if ((occurrences x y 0 x.length limit).isEmpty||(y.length==0&&z.length==0))=true then (do rule "str.replace.nothing";ret (.str x t)) else
         (do let same <-isSame (.str y u) (.str z v)
             if same=true then (do rule "str.replace.old-is-new";ret (.str x t)) else
             if tooLong (x.length+(occurrences x y 0 x.length limit).length*z.length)=true then unsupported "str.replace:memory" else
             retStr (glued z (partsBetween x (occurrences x y 0 x.length limit) y.length)))):=rfl
   rw [e,countLimit_int "str.replace" 1 k (x.length+1) (by decide)]
   show GivesAt _ (if ((occurrences x y 0 x.length 1).isEmpty||(y.length==0&&z.length==0))=true then (do rule "str.replace.nothing";ret (.str x t)) else
         (do let same <-isSame (.str y u) (.str z v)
             if same=true then (do rule "str.replace.old-is-new";ret (.str x t)) else
             if tooLong (x.length+(occurrences x y 0 x.length 1).length*z.length)=true then unsupported "str.replace:memory" else
             retStr (glued z (partsBetween x (occurrences x y 0 x.length 1) y.length)))) _
   rw [ho,hy,hg]
   cases hyz:(y==z)
   . rw [isSame_str_other y z u v h0 huv' hyz,hl]
     exact Gives.at (.of_eq rfl)
   . intro prog w A R s hb hq
     show wpAny _ _ (isSame (.str y u) (.str z v) >>= _) _ _ _
     refine wpAny_bind (wpAny_isSame_str h0 hb fun b=>?_)
     cases b
     . show wpAny _ _ (if tooLong (x.length+[i].length*z.length)=true then _ else retStr r) _ _ _
       rw [hl]
       exact wpAny_bind (wpAny_mkStr (wpAny_pure hq.2.2) hq.2.1)
     . exact wpAny_bind (wpAny_rule (wpAny_pure hq.1))
 have fit:r.length<=sizeLine:=by rw [sizeLine_eq];omega
 refine call_givesAt F.slot_str_replace (typeIs_str _ _ _) F.entry_str_replace (F.args_str_replace_4 _ _ _ _) g hnb ?_
 cases hyz:(y==z)
 . exact ⟨fit,hq _ _⟩
 . refine ⟨?_,fit,hq _ _⟩
   have e:=hs (eq_of_beq hyz)
   have:=hq t s.toks
   rw [e] at this
   exact this
end
section
variable {X:Cx}
def qoE (i:Nat) (S:Addr->Prop) (tb:XK->TS) (th:TS):TS:=fun D σ H =>
 tb (fun c _ H'=>∃C,c = .ref C/\S C/\∀(e:Addr) (σ':St),σ'.length=σ.length->H' e=none ->
   th { nx:=fun σ2 H2=>D.nx (σ2.set i none) H2,rt:=D.rt,bk:=fun σ2 H2=>D.bk (σ2.set i none) H2,ct:=fun σ2 H2=>D.ct (σ2.set i none) H2 } (σ'.set i (some (.ref e))) (upd H' e (XO e C))) D σ H
def qpy {i:Nat} {n x:Str} {body suite:List Stmt} {b0:Stmt} {B:Addr} {S:Addr->Prop} {tb:XK->TS} {th:TS} {np hp pos:Pos} {bmB:List Value} {newId:String}
   (hN:X.N.Nodup) (hi:X.N[i]?=some n) (hl:X.env.scope.names.lookup n=some .local) (st:X.stack=X.env::X.outer) (hf:X.env.frame=some X.env.locals)
   (hg:Gl X x) (hm:X.mg x=some (.ref B)) (xB:PySem.W.excIn X.K B bmB newId=true) (be:PySem.W.subIn X.K (.ref B) (.type "BaseException")=some true) (su:∀C,S C->PySem.W.subIn X.K (.ref C) (.ref B)=some true)
   (hb:∀(pins:List (Addr×Obj)) (xe:Value->Shared->Prop) (E:XK),qfx ((X.pinned pins).wish xe) E->PSs ((X.pinned pins).wish xe) body (tb E))
   (hs:∀(pins:List (Addr×Obj)) (e:Addr),PSs (X.within pins e) (b0::suite) th) (hdb:(x==("__debug__" : Str))=false:=by decide) :
   PS X (.Try body [.ExceptHandler (some (.Name x np)) (some n) (b0::suite) hp] [] [] pos) (qoE i S tb th):=by
 intro pins s σ H D I h
 refine wpAny_Try_except ?_
 let E1:XK:=fun c _ H'=>∃C,c = .ref C/\S C/\∀(e:Addr) (σ':St),σ'.length=σ.length->H' e=none ->
   th { nx:=fun σ2 H2=>D.nx (σ2.set i none) H2,rt:=D.rt,bk:=fun σ2 H2=>D.bk (σ2.set i none) H2,ct:=fun σ2 H2=>D.ct (σ2.set i none) H2 } (σ'.set i (some (.ref e))) (upd H' e (XO e C))
 let xe1:Value->Shared->Prop:=Thr (X.pinned pins) E1
 have hp1:qfx ((X.pinned pins).wish xe1) E1:=fun x s' ⟨p1,σ1,H',e,T,C',fl,ex,J,n1,n2,a,q⟩=>⟨p1,σ1,H',e,T,C',fl,ex,J.unwish,⟨n1.old,n1.loc,n1.cel,n1.pin,n1.frm,n1.non⟩,⟨n2.old,n2.loc,n2.cel,n2.pin,n2.frm,n2.non⟩,a,q⟩
 refine wpAny_mono (hb pins xe1 E1 hp1 [] s σ H D (I.pin1.wish _) h) (fun f s1 q=>?_) fun x s1 q=>?_
 . have q':=SP.unpinned q
   cases f with
   | next=>exact wpAny_execs_nil q'
   | brk=>exact q'
   | cont=>exact q'
   | ret u=>exact q'
 . obtain ⟨p1,σ1,H',e,T,C,fl,rfl,J,ne,nT,a,C',ec,sC,qh⟩:=q
   cases ec
   refine Fly.notedA (base:=X.base) (L:=X.env.locals) (show X.A.frames=_ from st▸I.ok.frames) (show s1.heap.FunFrames X.base (X.env::X.outer) from st▸J.stack) hf a fun h2 T2 n2 l2 a2=>?_
   refine Fly.lands (s:={ s1 with heap:=h2 }) a2 fun h3 l3 a3=>?_
   have nT2:Nw (X.pinned pins) p1 H' T2:=by
     rcases n2 with z | z
     . rw [z];exact nT
     . exact J.nw z (J.hok.none_of z)
   have cc:∀b∈[e,T,T2],Nw (X.pinned pins) p1 H' b:=fun b z=>by
     simp only [ybd,ydj,or_false] at z
     rcases z with rfl | rfl | rfl
     . exact ne
     . exact nT
     . exact nT2
   have l2:Fly.Left (frs X.stack) [e,T,T2] s1.heap h2:=by
     rw [st]
     exact l2.mono (fun _ z=>z) fun b z=>by simp at z ⊢;rcases z with z | z<;>simp [z]
   have l3:Fly.Left (frs X.stack) [e,T,T2] h2 h3:=l3.mono (fun _ z=>absurd z (by simp)) fun b z=>by simp at z ⊢;simp [z]
   have l23:=l2.trans l3
   have J3:Inv (X.within pins e) [] σ1 H' { s1 with heap:=h3 }:=(J.flown (t':=s1.toks) l23 cc).within
   refine wpAny_handleBy_cons (codeAny_handlers_test (qd2 J3 (x:=x) hg hm ?_ hdb)) (by intro z;cases z)
   have kin:=J3.kIn
   obtain ⟨bm,ns,nm,qn,bs,hdct,sn,sub,ab,col,dd,k0,k1,k2,k3,k5,mN,o1,_⟩:=qfm kin xB
   obtain ⟨neT,oe,vs,oT,ts,he,hc,_⟩:=id a3
   refine Fly.matches_own (C:=C) (b:=true) he hc o1 (Fly.lk fun M=>PySem.W.looks_subIn kin be) (Fly.lk fun M=>PySem.W.looks_subIn kin (su C sC)) ?_
   refine codeAny_handlers_suite_as (Fly.lands (s:={ s1 with heap:=h3 }) a3 fun h4 l4 a4=>?_)
   have l4:Fly.Left (frs X.stack) [e,T,T2] s1.heap h4:=l23.trans (l4.mono (fun _ z=>absurd z (by simp)) fun b z=>by simp at z ⊢;simp [z])
   obtain ⟨_,oe4,_,_,_,he4,hc4,_⟩:=id a4
   have J4:Inv (X.pinned pins) p1 σ1 H' { s1 with heap:=h4 }:=J.flown (t':=s1.toks) l4 cc
   have J5:=J4.told (o:=XO e C) ne ⟨⟨oe4,he4,hc4⟩,⟨oe4,he4⟩,fun g1 g2 ⟨o,z1,z2⟩ k=>⟨o,k o z1,z2⟩⟩
   refine qcU (X:=X.within pins e) (v := .ref e) (i:=i) (x:=n) J5.within hN hi (.inl hl) rfl (fun s6 I6=>?_) (.inr hl)
   refine wpAny_mono (hs pins e [] s6 _ _ _ I6 (qh e σ1 (J.len.trans I.len.symm) ne.non)) (fun f s7 q7=>?_) fun _ _ z=>z.elim
   cases f with
   | next=>obtain ⟨σ7,H7,I7,d⟩:=q7;exact qcv (I7.outside I.ok) hN hi hl fun s8 I8=>⟨_,_,I8,d⟩
   | brk=>obtain ⟨σ7,H7,I7,d⟩:=q7;exact qcv (I7.outside I.ok) hN hi hl fun s8 I8=>⟨_,_,I8,d⟩
   | cont=>obtain ⟨σ7,H7,I7,d⟩:=q7;exact qcv (I7.outside I.ok) hN hi hl fun s8 I8=>⟨_,_,I8,d⟩
   | ret u=>obtain ⟨v,σ7,H7,I7,r,d⟩:=q7;exact qcv (I7.outside I.ok) hN hi hl fun s8 I8=>⟨v,_,_,I8,r,d⟩
def qkw {i:Nat} {S:Addr->Prop} {tb:XK->TS} {th:TS} {D:qe7} {σ:St} {H:Hp} {u:TS}:qiX (qoE i S tb th) u D σ H↔tb (fun c _ H'=>∃C,c = .ref C/\S C/\∀(e:Addr) (σ':St),σ'.length=σ.length->H' e=none ->
 th { nx:=fun σ2 H2=>u D (σ2.set i none) H2,rt:=D.rt,bk:=fun σ2 H2=>D.bk (σ2.set i none) H2,ct:=fun σ2 H2=>D.ct (σ2.set i none) H2 } (σ'.set i (some (.ref e))) (upd H' e (XO e C))) { D with nx:=u D } σ H:=Iff.rfl
def qsH (K:PySem.W.Frag) (S:Addr->Prop):List V->Hp->VK->Prop:=fun xs H Q=>∃C,S C/\qsN K C xs H Q
def qcP {K:PySem.W.Frag} {S:Addr->Prop} (hK:X.K=K) (k:∀C,S C->qpr K C):qcl X (.builtin "isinstance") (qsH K S):=by
 intro pins s σ H xs us Q I r h
 obtain ⟨C,sC,h⟩:=h
 exact qmG hK (k C sC) pins s σ H xs us Q I r h
end
section
variable {X:Cx}
def qnw (c1 c2:Str) (to ta tb:TE):TE:=fun σ H Q=>to σ H fun x H1=>∃xs:Str,x = .str xs/\ta σ H1 fun y H2=>∃ys:Str,y = .str ys/\ys.length≠0/\ys.length<=10000/\tb σ H2 fun z H3=>∃(zs r:Str) (i:Nat),z = .str zs/\zs.length≠0/\zs.length<=10000 /\
 Builtin.Str.occurrences xs (ys++c1) 0 xs.length 1=[i]/\Builtin.Str.glued (zs++c2) (Builtin.Str.partsBetween xs [i] (ys++c1).length)=r/\(ys++c1=zs++c2->r=xs)/\xs.length<=10000/\r.length<=100000/\Q (.str r) H3
def qql {s:Shared} {K:PySem.W.Frag} (kin:K.In s.heap) (h1:PySem.W.nsOkIn K cStatics=true) (h2:PySem.W.nsIn K cStatics sharingNotToldKey=some none):NoneBooked s.heap :=
 ⟨_,.of_isNs (PySem.W.isNs_of_in kin h1),PySem.W.nsMap_none_of_in kin h1 h2⟩
def qmz {o a b:Expr} {c1 c2:Str} {to ta tb:TE} {k1 k2 k3:Nat} {p1 p2 p3 q1 q2 apos cpos:Pos} (h1:PySem.W.nsOkIn X.K cStatics=true) (h2:PySem.W.nsIn X.K cStatics sharingNotToldKey=some none)
   (hc1:c1.length=1) (hc2:c2.length=1) (ho:PE X o to) (ha:PE X a ta) (hb:PE X b tb)
   (hbase:attributeBase o "replace" X.env (eval o X.env)=eval o X.env:=by rfl)
   (hfew:((backTo cpos (starEach [.BinOp a .Add (.Constant (.str c1) k1 p1) q1,.BinOp b .Add (.Constant (.str c2) k2 p2) q2,.Constant (.int 1) k3 p3] X.env)).all (fun x=>!x.1)&&(backToKw cpos (keywordEach [] X.env)).all (fun x=>x.1.isSome)
     && decide (([.BinOp a .Add (.Constant (.str c1) k1 p1) q1,.BinOp b .Add (.Constant (.str c2) k2 p2) q2,.Constant (.int 1) k3 p3]:List Expr).length+([]:List Keyword).length+(if ([]:List Keyword).isEmpty then 0 else 1)<30))=true:=by rfl)
   (hline:(apos.endLine==cpos.line)=true:=by rfl) :
   PE X (.Call (.Attribute o "replace" apos) [.BinOp a .Add (.Constant (.str c1) k1 p1) q1,.BinOp b .Add (.Constant (.str c2) k2 p2) q2,.Constant (.int 1) k3 p3] [] cpos) (qnw c1 c2 to ta tb):=by
 intro pins s σ H Q I h
 have e24:sizeLine=16777216:=sizeLine_eq
 have n1:(c1.length==0)=false:=by rw [hc1];rfl
 have n2:(c2.length==0)=false:=by rw [hc2];rfl
 refine wpAny_Call_method_late hbase hfew hline rfl (thn (ho pins s σ H _ I h) fun v s1 ⟨x,H1,I1,r1,xs,ex,q1⟩=>?_)
 subst ex
 obtain ⟨t1,t2⟩:=qk7 (T := "str") I1 r1 rfl
 obtain ⟨tk,rfl⟩:=id r1
 refine ⟨"str", "str.replace",ygp,PySem.F.slot_str_replace,PySem.F.type_str_replace,t1,t2,?_⟩
 refine Calls.callWith_builtin rfl (Calls.evalArgs_plain ?_)
 refine Calls.spliced_cons (wpAny_BinOp (thn (ha pins s1 σ H1 _ I1 q1) fun v2 s2 ⟨y,H2,I2,r2,ys,ey,y0,yl,q2⟩=>Calls.Constant_str (k:=k1) (pos:=p1) ?_))
 subst ey
 obtain ⟨ty,rfl⟩:=id r2
 refine P.add_str ?_
 rw [show (ys.length==0)=false by simpa using y0,n1]
 refine ⟨by rw [Str.length_append];omega,?_⟩
 refine Calls.spliced_cons (wpAny_BinOp (wpAny_with_toks (n:=s2.toks+2) (yax _) (wpAny_mono (hb pins _ σ H2 _ (I2.tok _) q2) (fun v3 s3 ⟨z,H3,I3,r3,zs,r,i,ez,z0,zl,ho,hg,hs,xl,rl,q3⟩ hp3=>?_) fun _ _ q _=>q)))
 subst ez
 obtain ⟨tz,rfl⟩:=id r3
 refine Calls.Constant_str (k:=k2) (pos:=p2) (P.add_str ?_)
 rw [show (zs.length==0)=false by simpa using z0,n2]
 refine ⟨by rw [Str.length_append];omega,?_⟩
 refine Calls.spliced_cons (wpAny_Constant_int (k:=k3) (pos:=p3) (Calls.spliced_nil ?_))
 refine qjo (by show s2.toks+1≠0;omega) (by show s3.toks+1≠0;omega) (by show s2.toks+1≠s3.toks+1;omega) ho (by rw [Str.length_append];simp;omega) hg hs (by rw [Str.length_append];omega) rl (qql I3.kIn h1 h2) fun t' k'=>⟨.str r,H3,I3.tok _,⟨_,rfl⟩,q3⟩
end
end L2
namespace L2
open PySem PySem.Spec PyProof.Rows
def qi0:∀{bs:List Bool} {us:List Value},qaV (bs.map V.bl) us->us=bs.map Value.bool
 | [],_,.nil=>rfl
 | b::bs,_,.cons r t=>by
   cases (show _=Value.bool b from r)
   rw [qi0 t]
   rfl
def qhb:∀{bs:List Bool} {j:Nat},j<bs.idxOf true->∀h:j<bs.length,(bs[j]==true)=false
 | [],j,_,h=>absurd h (yfq j)
 | y::ys,j,w,h=>by
   rw [List.idxOf_cons] at w
   cases c:y==true with
   | true=>rw [c] at w;exact absurd w (by simp)
   | false =>
     rw [c] at w
     cases j with
     | zero=>exact c
     | succ j =>
       have w:j+1<ys.idxOf true+1:=w
       exact qhb (bs:=ys) (by omega) (ydl h)
section
variable {X:Cx}
def qou:V->List V->Hp->VK->Prop:=fun x vs H Q=>∃(l:Addr) (bs:List Bool),x = .ref l/\vs=[.bl true]/\H l=some (.lst (bs.map V.bl))/\true∈bs/\bs.length<=1000/\Q (.int (bs.idxOf true:Nat)) H
def qk2:MtM X "list.index" qou:=by
 intro pins s σ H x vs v us Q I rx rv h
 obtain ⟨l,bs,rfl,rfl,hH,hk,hb,q⟩:=h
 cases rx
 obtain ⟨u,rfl,ru⟩:=rv.one
 cases (show u=Value.bool true from ru)
 obtain ⟨z,its,n,r,hl,e⟩:=I.lstM hH
 have hi:=qi0 r
 subst hi
 have hj:bs.idxOf true<bs.length:=yfr.mpr hk
 refine call_meets yfs ⟨_,e,rfl⟩ yft (yfu _ _) (SeqAt.list_indexAt l (bs.map Value.bool).toArray n none #[] (.bool true) (isBoolOf true) (bs.idxOf true) (by rw [yeu,ybz];omega) (by omega) ?_ fun j w1 w2=>?_) ⟨e,fun y hy=>?_,?_⟩
 . simp [isBoolOf,ygi hj]
 . have w1:j<bs.length:=by simpa using w1
   have:=qhb w2 w1
   simpa [isBoolOf] using this
 . obtain ⟨b,_,rfl⟩:=ybq.mp (show y∈bs.map Value.bool by simpa using hy)
   exact PySem.SeqAt.EqAt.bool_bool b true
 . exact ⟨.int _,H,I.tok _,⟨_,rfl⟩,q⟩
end
end L2
open L2 in
local macro_rules | `(tactic| walk_at "rd")=>`(tactic| simp only [qmk,qkE,qmN,qjc,qmo,qpH,ite_true,ite_false,qjl,qrS,qr2,qoh,qnK,qel,qrT,tC,tOp,tUn,rU,qrh,tB,qsW,tOr,qsV,qqB,qtf,qqq,qdQ,qrZ,qky,tCB,qs2,qsL,qnT,tBM,qsO,qnx,qkC,qp8,qo1,qpm,qoZ,qtc,qsM,qpu,qp5,qr6,qm1,qrQ,qoU,qmf,ql8,tSl,qlg,qrd,qsJ,qs5,qsi,qs7,qpP,qoO,qq9,qo5,qm4,qmH,qkw,qjR,qsH,qok,qnw,qmn,qmB,qko,qsa,qs3,qlb,qqD,qqn,qoe,qoM,qsP,tIf,qtk,qot,
 qqS,qqb,qru,qqY,qqf,qq0,qo7,qqe,qqw,qrc,qro,qqN,qqv,qqp,qqo,qsz,qsm,qrW,qsb,qsr,qrX,qr0,qsj,qss,qsd,qs9,qi6,
 qbr,List.replicate_succ,List.replicate_zero,ycw,yet,Option.join_some,rIn,ydn,yfa,List.nil_append,ygm,ygk,List.set_cons_zero,List.set_cons_succ,Option.some.injEq,List.cons.injEq,V.int.injEq,V.bl.injEq,V.ref.injEq,V.ty.injEq,V.str.injEq,and_true,true_and,exists_eq_left,exists_eq_left',exists_and_left,exists_eq',exists_eq,reduceCtorEq,false_and,exists_false,or_false,false_or,decide_eq_true_eq,yaw,Bool.not_eq_eq_eq_not,Bool.not_true,decide_eq_false_iff_not])
namespace Zk51
set_option maxHeartbeats 4000000
open PySem L2 PyProof.Rows
def top (i:Nat):Stmt:=PySem.Challenge.pw_allhits_k51_a_full_desk.main.body.getD i (.Pass ⟨0,0,0,0⟩)
structure Txt (mg:Str->Option Value):Prop where
 n_isinstance:mg "isinstance" = none
 n_int:mg "int" = none
 n_bool:mg "bool" = none
 n_len:mg "len" = none
 n_range:mg "range" = none
 n_list:mg "list" = none
 n_str:mg "str" = none
 n_all:mg "all" = none
 n_set:mg "set" = none
 n_sorted:mg "sorted" = none
 n_zip:mg "zip" = none
 n_ValueError:mg "ValueError" = none
 c_MOST_SETS:∃t,mg "MOST_SETS" = some (.int 70 t)
 c_MOST_LETTERS:∃t,mg "MOST_LETTERS" = some (.int 8 t)
 c_MOST_NAMES:∃t,mg "MOST_NAMES" = some (.int 8 t)
 c_NO_SETS:∃t,mg "NO_SETS" = some (.str "none" t)
 c_NO_NAMES:∃t,mg "NO_NAMES" = some (.str "-" t)
 c_MOST_KEPT:∃t,mg "MOST_KEPT" = some (.int 20 t)
def fsc {N P:List Str} {sc:Scope} (h1:sc.kind = .function:=by rfl) (h2:sc.isCoroutine=false:=by rfl) (h3:sc.isGenerator=false:=by rfl) (h4:N.Nodup:=by decide +kernel) (h5:N.take P.length=P:=by rfl) (h6:∀x∈P,sc.names.lookup x=some .local\/sc.names.lookup x=some .cell:=by decide +kernel) (h7:∀y∈sc.names,y.2 ≠ .free:=by decide +kernel):qai N P sc:=⟨h1,h2,h3,h4,h5,h6,h7⟩
def pec {X:Cx} {x:Str} {p pos:Pos} {e:Expr} {es:List Expr} {t:TA} {k j:Nat} {ps:List Str} {sp:Sp} {f:Addr} {fd:FuncData} (C:Cal X.prog X.w X.K X.mg X.base x k ps sp f fd) (hr:qcZ j X.A) (ha:PA X (e::es) t) (hj:k<=j:=by decide) (hg:Gl X x:=by rfl) (hdb:(x==("__debug__" : Str))=false:=by decide)
 (he:starEach (e::es) X.env=(false,eval e X.env)::starEach es X.env:=by rfl) (hpl:(backTo pos (starEach es X.env)).any (·.1)=false:=by rfl):PE X (.Call (.Name x p) (e::es) [] pos) (qky sp [] E0 t):=qq4 C hr hj hg ha hdb he hpl
section
variable {P:Program} {w:World} {K:W.Frag} {mg:Str->Option Value} {base:Heap}
abbrev qbR:Stmt:=top 9
def qeK:qai ["thing"] ["thing"] (qab qbR):=fsc
def qpR (o:Obj):Bool:=match o with
 | ⟨_,_,.dict es _,_⟩=>es.size==0
 | _=>false
def qsv {K:W.Frag} {N:Addr} {o:Obj} (h:K.lookup N=some o) (e:qpR o=true):W.nsOkIn K N=true:=by
 unfold W.nsOkIn
 rw [h]
 obtain ⟨c,d,dt,sl⟩:=o
 cases dt with
 | dict es _ =>
   obtain rfl:es = #[]:=by simpa [qpR] using e
   simp
 | _=>cases e
/-- the classes that are caught -/
def XS (cX cN cF C:Addr):Prop:=C=cX\/C=cN\/C=cF
def qd9 {cX cN cF:Addr} {p:Addr->Prop} (a:p cX) (b:p cN) (c:p cF):∀C,XS cX cN cF C->p C:=fun C h=>by
 rcases h with rfl | rfl | rfl<;>assumption
/-- the classes and the table of the text -/
structure Xt (P:Program) (w:World) (K:W.Frag) (mg:Str->Option Value) (cD aW cX cN cF cH cO cM:Addr):Prop where
 gDesk:mg "Desk" = some (.ref cD)
 cl:Cls K cD
 nw:qdx K cD "words"
 nk:qdx K cD "kept"
 gW:mg "WANTED" = some (.ref aW)
 wn:Wnt P w K aW
 gX:mg "NoText" = some (.ref cX)
 gN:mg "NoFamily" = some (.ref cN)
 gF:mg "Full" = some (.ref cF)
 gH:mg "HitError" = some (.ref cH)
 gO:mg "NoDeed" = some (.ref cO)
 gM:mg "TooMany" = some (.ref cM)
 xX:W.excIn K cX [.type "ValueError",.type "Exception",.type "BaseException",.type "object"] "ValueError.__new__" = true
 xN:W.excIn K cN [.type "ValueError",.type "Exception",.type "BaseException",.type "object"] "ValueError.__new__" = true
 xF:W.excIn K cF [.type "ValueError",.type "Exception",.type "BaseException",.type "object"] "ValueError.__new__" = true
 xH:W.excIn K cH [.type "ValueError",.type "Exception",.type "BaseException",.type "object"] "ValueError.__new__" = true
 beH:W.subIn K (.ref cH) (.type "BaseException")=some true
 suH:∀C,XS cX cN cF C->W.subIn K (.ref C) (.ref cH)=some true
 kit:∀C,XS cX cN cF C->qpr K C
 iV:∀C,XS cX cN cF C->W.kitOne K (.ref C) (.type "ValueError")=some true
 iO:∀C,XS cX cN cF C->W.kitOne K (.ref C) (.ref cO)=some false
 iM:∀C,XS cX cN cF C->W.kitOne K (.ref C) (.ref cM)=some false
 iX:∀C,XS cX cN cF C->W.kitOne K (.ref C) (.ref cX)=some (decide (C=cX))
 iN:∀C,XS cX cN cF C->W.kitOne K (.ref C) (.ref cN)=some (decide (C=cN))
 iF:∀C,XS cX cN cF C->W.kitOne K (.ref C) (.ref cF)=some (decide (C=cF))
 nXN:cX≠cN
 nXF:cX≠cF
 nNF:cN≠cF
 st1:W.nsOkIn K cStatics=true
 st2:W.nsIn K cStatics sharingNotToldKey=some none
def qhQ:Sp:=sp1 fun x H Q=>∃t,qkT H x=some t/\Q (.bl (qlO t "int" && !qlO t "bool")) H
def qmr {t:String} (h:t ≠ "int"):(qlO t "int" && !qlO t "bool")=false:=by
 have e:(t == "int")=false:=by simpa using h
 unfold qlO
 rw [e]
 cases (t == "bool")<;>rfl
def qiq {f:Addr} {fd:FuncData} (F:Fun K "is_whole" "is_whole" qbR f fd) (T:Txt mg)  : qaN P w K mg base CX0 1 f fd ["thing"] qhQ:=by
 have sc:=qeK
 refine F.ok qeK (fun vs H Q E h=>by obtain ⟨_,rfl,_⟩:=h;rfl) (fun cdv A outer s H vs Q E hr h=>?_)
 obtain ⟨x0,rfl,h⟩:=h
 refine ⟨_,(qae (qal (qlu (qat qb2 (by rfl) T.n_isinstance PyProof.Rows.boot_isinstance (qaa (pv 0) (qaa (qdN (v := .ty "int") (by rfl) T.n_int PyProof.Rows.boot_int rfl) qad))) (qjS (qrv (qat qb2 (by rfl) T.n_isinstance PyProof.Rows.boot_isinstance (qaa (pv 0) (qaa (qdN (v := .ty "bool") (by rfl) T.n_bool PyProof.Rows.boot_bool rfl) qad)))))))),?_⟩
 refine rdg (σ':=[some x0]) rfl ?_
 obtain ⟨t,hk,q⟩:=h
 walk_at "rd"
 refine ⟨x0, "int",⟨rfl,rfl⟩,t,hk,by decide,?_⟩
 split
 . rename_i h1
   refine ⟨x0, "bool",⟨rfl,rfl⟩,t,hk,by decide,?_⟩
   rw [h1,yfh] at q
   exact q
 . rename_i h1
   have h2:qlO t "int" = false:=by simpa using h1
   rw [h2,yee] at q
   exact q
abbrev qbE:Stmt:=top 85
def qd5:qai ["_law_script", "_law_k", "_law_number"] ["_law_script", "_law_k"] (qab qbE):=fsc
def qlK (K:W.Frag):Sp:=sp2 fun x y H Q=>∃(a:Addr) (ns:List Int) (k:Nat),x = .ref a/\SqL K H a (ns.map V.int)/\ns.length<=63/\y = .int k/\k<=1000/\∀z:Int,Q (.int z) H
def qkh {ns:List Int} {i:Int} (h0:0<=i) (h1:i<ns.length):∃z,atI (ns.map V.int) i=some (.int z):=by
 refine ⟨ns[i.toNat]'(by omega),?_⟩
 unfold atI ixN
 rw [if_pos h0,if_pos (by rw [ybz];exact h1)]
 simp [ybu (show i.toNat<ns.length by omega)]
def qhn {f:Addr} {fd:FuncData} (F:Fun K "_law_cell" "_law_cell" qbE f fd) (T:Txt mg)  : qaN P w K mg base CX0 1 f fd ["_law_script", "_law_k"] (qlK K):=by
 have sc:=qd5
 refine F.ok qd5 (fun vs H Q E h=>by obtain ⟨_,_,rfl,_⟩:=h;rfl) (fun cdv A outer s H vs Q E hr h=>?_)
 obtain ⟨x0,x1,rfl,h⟩:=h
 refine ⟨_,(qac (qaF (qam qlS (pv 1) (qat (qaL (K:=K) rfl) (by rfl) T.n_len PySem.boot_len (qaa (pv 0) qad)) (qaq _)) (qae (qal (qbf (qc0 (K:=K) rfl) (pv 0) (pv 1) (fun _ _=>rfl)))) qan)
   (qac (qay (i:=2) sc.nd rfl (Or.inl rfl) (qar qb9 (qar qc4 (pv 1) qaf) qaf))
   (qac (qaF (qam qmW (qat (qaL (K:=K) rfl) (by rfl) T.n_len PySem.boot_len (qaa (pv 0) qad)) qaf (qaq _)) (qae (qay (i:=2) sc.nd rfl (Or.inl rfl) (qar qbn (qar qb9 (qar qc4 (qbf (qc0 (K:=K) rfl) (pv 0) (qar qbn (qar qc4 (pv 1) qaf) (qat (qaL (K:=K) rfl) (by rfl) T.n_len PySem.boot_len (qaa (pv 0) qad))) (fun _ _=>rfl)) qaf) (qar qc4 (pv 1) qaf)) qaf))) qan)
   (qae (qal (qar qbn (qar qc4 (pv 2) (pv 2)) qaf)))))),?_⟩
 refine rdg (σ':=[some x0,some x1,none]) rfl ?_
 obtain ⟨a,ns,k,rfl,hS,hl,rfl,hk,q⟩:=h
 walk_at "rd"
 refine ⟨_,.inl hS,?_⟩
 rw [ybz]
 split
 . rename_i hc
   obtain ⟨z,hz⟩:=qkh (ns:=ns) (i:=k) (by omega) (by omega)
   exact qbC hS hz (q z)
 rename_i hc
 refine ⟨.inl ⟨by omega,by omega⟩,?_⟩
 have fin:∀z:Int,0<=z->z<2147483647->qrB z z:=fun z h0 h1 => .inl ⟨by omega,by omega⟩
 refine qa5 (fun σ' H'=>∃z:Int,0<=z/\z<10000000000/\σ'=[some (V.ref a),some (V.int k),some (V.int z)]/\H'=H) ?_ fun N hN=>?_
 . rintro σ' H' ⟨z,z0,z1,rfl,rfl⟩
   (try walk_at "rd")
   exact ⟨.inl ⟨by omega,by omega⟩,by decide,q _⟩
 . (try walk_at "rd")
   refine ⟨_,.inl hS,?_⟩
   rw [ybz]
   split
   . rename_i h0
     refine ⟨.inl ⟨by omega,by omega⟩,_,.inl hS,by rw [ybz];omega,?_⟩
     rw [ybz]
     have e0:=ygq ((k:Int)*7) (show (ns.length:Int)≠0 by omega)
     have e1:=ygr ((k:Int)*7) (show (0:Int)<ns.length by omega)
     obtain ⟨z,hz⟩:=qkh (ns:=ns) e0 e1
     refine qbC hS hz ?_
     (try walk_at "rd")
     refine ⟨.inr ⟨by decide,by decide⟩,.inl ⟨by omega,by omega⟩,by decide,hN _ _ ⟨_,ygq _ (by decide),?_,rfl,rfl⟩⟩
     have:=ygr (z*48271+(k:Int)*7919) (show (0:Int)<2147483647 by decide)
     omega
   . exact hN _ _ ⟨_,by omega,by omega,rfl,rfl⟩
abbrev qbV:Stmt:=top 86
def qfb:qai ["_law_cell_here", "_law_k", "_law_number"] ["_law_cell_here", "_law_k"] (qab qbV):=fsc
def qbh (c:Int) (k:Nat):Nat:=((c%2147483647*48271+(k:Int)*k*69621+k+11)%2147483629*((c%2147483647*48271+(k:Int)*k*69621+k+11)%2147483629)%2147483587).toNat
def qmV:Sp:=sp2 fun x y H Q=>∃(c:Int) (k:Nat),x = .int c/\y = .int k/\k<=1000/\Q (.int (qbh c k:Nat)) H
def qio {f:Addr} {fd:FuncData} (F:Fun K "_law_mix" "_law_mix" qbV f fd) (T:Txt mg)  : qaN P w K mg base CX0 1 f fd ["_law_cell_here", "_law_k"] qmV:=by
 have sc:=qfb
 refine F.ok qfb (fun vs H Q E h=>by obtain ⟨_,_,rfl,_⟩:=h;rfl) (fun cdv A outer s H vs Q E hr h=>?_)
 obtain ⟨x0,x1,rfl,h⟩:=h
 refine ⟨_,(qac (qay (i:=2) sc.nd rfl (Or.inl rfl) (qar qbn (qar qb9 (qar qb9 (qar qb9 (qar qc4 (qar qbn (pv 0) qaf) qaf) (qar qc4 (qar qc4 (pv 1) (pv 1)) qaf)) (pv 1)) qaf) qaf))
   (qae (qal (qar qbn (qar qc4 (pv 2) (pv 2)) qaf)))),?_⟩
 refine rdg (σ':=[some x0,some x1,none]) rfl ?_
 obtain ⟨c,k,rfl,rfl,hk,q⟩:=h
 walk_at "rd"
 have c0:=ygq c (show (2147483647:Int)≠0 by decide)
 have c1:=ygr c (show (0:Int)<2147483647 by decide)
 have n0:=ygq (c%2147483647*48271+(k:Int)*k*69621+k+11) (show (2147483629:Int)≠0 by decide)
 have n1:=ygr (c%2147483647*48271+(k:Int)*k*69621+k+11) (show (0:Int)<2147483629 by decide)
 have z0:=ygq ((c%2147483647*48271+(k:Int)*k*69621+k+11)%2147483629*((c%2147483647*48271+(k:Int)*k*69621+k+11)%2147483629)) (show (2147483587:Int)≠0 by decide)
 refine ⟨by decide,.inl ⟨by omega,by omega⟩,.inl ⟨by omega,by omega⟩,.inr ⟨by decide,by decide⟩,by decide,.inl ⟨by omega,by omega⟩,by decide,?_⟩
 unfold qbh at q
 rw [Int.toNat_of_nonneg z0] at q
 exact q
abbrev qbk:Stmt:=top 87
def qds:qai ["_law_cell_here", "_law_count", "_law_letters", "_law_size", "_law_words_here", "_law_long", "_law_k", "_law_word"] ["_law_cell_here", "_law_count"] (qab qbk):=fsc
def qjP {n:Nat} {G:Nat->Str} (hn:n<=8) (h:∀k,k<n->Tx.Wd (G k)) (h1:∀i j,i<j->j<n->G i≠G j) (h2:∀k,k<n->G k ≠ "none"):Tx.Wds ((List.range n).map G):=by
 refine ⟨by simpa using hn,?_,fun w hw=>?_,fun hw=>?_⟩
 . unfold List.Nodup
   rw [ybs]
   exact (ybg).imp_of_mem fun _ hb hlt=>h1 _ _ hlt (ybh.mp hb)
 . obtain ⟨k,hk,rfl⟩:=ybq.mp hw
   exact h k (ybh.mp hk)
 . obtain ⟨k,hk,e⟩:=ybq.mp hw
   exact h2 k (ybh.mp hk) e
def qrx {ys:List Str} (h:∀y∈ys,∃c,y=⟨#[c]⟩/\c<=109):∀c∈Tx.sg (_root_.PySem.Txt.join ("" : Str) ys),c<=109:=fun c hc=>by
 rw [qdh] at hc
 obtain ⟨l,hl,hcl⟩:=yga.mp hc
 obtain ⟨y,hy,rfl⟩:=ybq.mp hl
 obtain ⟨d,rfl,hd⟩:=h y hy
 rw [show c=d from by simpa [Tx.sg] using hcl]
 exact hd
def qiT {z:Str} (h:∀c∈Tx.sg z,c<=109):z ≠ "none" := fun e=>by
 have:=h 110 (by rw [e];decide +kernel)
 omega
def qq1 {n j:Nat} (h:j<n):ixN n (j:Int)=some j:=by
 unfold ixN
 rw [if_pos (by omega),if_pos (by omega),yer]
def one (x:Nat):Str:=⟨#[x]⟩
def qgo (l:List Nat):Tx.sg (_root_.PySem.Txt.join ("" : Str) (l.map one))=l:=by
 rw [qdh,yds]
 induction l with
 | nil=>rfl
 | cons x l ih =>
   rw [ycw,yfz,ih]
   rfl
def qdp (w:Str):Str:=if w = "none" then "nones" else w
def qni (w:Str):qdp w ≠ "none" := by
 unfold qdp
 split
 . decide +kernel
 . rename_i h
   exact h
def qmt {v w:Str} (hl:v.length=w.length) (h:qdp v=qdp w):v=w:=by
 have l4:("none" : Str).length=4:=by decide +kernel
 have l5:("nones" : Str).length=5:=by decide +kernel
 unfold qdp at h
 by_cases a:v = "none" <;> by_cases b:w = "none"
 . rw [a,b]
 . rw [if_pos a,if_neg b] at h
   rw [<-h,a] at hl
   omega
 . rw [if_neg a,if_pos b] at h
   rw [h,b] at hl
   omega
 . rw [if_neg a,if_neg b] at h
   exact h
def qrb {y:Str} (e:¬y=Str.ofString "none"):y++Str.empty=qdp y:=by
 unfold qdp
 rw [if_neg e]
 show (⟨y.cps++#[]⟩:Str)=y
 rw [Array.append_empty]
def qrf {y r:Str} (e:y=Str.ofString "none") (h:∀c∈Tx.sg r,c∈Tx.sg (Str.ofString "s")) (hl:r.length=1):y++r=qdp y:=by
 rw [<-Tx.len_sg] at hl
 have e115:Tx.sg (Str.ofString "s")=[115]:=by decide +kernel
 have es:Tx.sg r=[115]:=by
   match hh:Tx.sg r,hl with
   | [x],_ =>
     have:=h x (by rw [hh];exact ybb)
     rw [e115] at this
     rw [ydu.mp this]
 have er:r=Str.ofString "s" := by
   have:=es.trans e115.symm
   cases r
   exact congrArg Str.mk (Array.toList_inj.mp this)
 rw [er,e]
 unfold qdp
 rw [if_pos rfl]
 decide +kernel
def wdN (b:List Nat) (u x k:Nat):Str:=_root_.PySem.Txt.join ("" : Str) ((b.set u (97+(x+3*k)%26)).map one)
def qeR (b:List Nat) (u x k:Nat):(wdN b u x k).length=b.length:=by
 rw [<-Tx.len_sg,wdN,qgo,yev]
def qoN {n u x:Nat} {b:List Nat} (hn:n<=7) (h1:1<=b.length) (h8:b.length<=8) (hl:∀y∈b,97<=y/\y<=122) (hu:u<b.length):Tx.Wds ((List.range n).map fun k=>qdp (wdN b u x k)):=by
 refine qjP (by omega) (fun k hk=>?_) (fun i j hij hj e=>?_) fun k _=>qni _
 . unfold qdp
   split
   . exact ⟨by decide +kernel,by decide +kernel,by decide +kernel⟩
   . refine ⟨by rw [qeR];exact h1,by rw [qeR];exact h8,fun c hc=>?_⟩
     rw [wdN,qgo] at hc
     rcases List.mem_or_eq_of_mem_set hc with h | h
     . exact hl c h
     . omega
 . have e:=congrArg Tx.sg (qmt (by rw [qeR,qeR]) e)
   rw [wdN,wdN,qgo,qgo] at e
   have e:=congrArg (fun l=>l[u]?) e
   simp only [yec hu] at e
   have e:=Option.some.inj e
   omega
def qfn (K:W.Frag):Sp:=sp2 fun x y H Q=>∃(c:Int) (n:Nat),x = .int c/\y = .int (n:Nat)/\n<=7/\∀(p:Addr) (ws:List Str) (H':Hp),H p=none->qav H H'->H' p=some (.lst (sV ws))->Tx.Wds ws->ws.length=n->Q (.ref p) H'
def qgA {f:Addr} {fd:FuncData} (F:Fun K "_law_words" "_law_words" qbk f fd) (T:Txt mg) {f_34:Addr} {fd_34:FuncData} (C_34:Cal P w K mg base "_law_mix" 1 ["_law_cell_here", "_law_k"] qmV f_34 fd_34):qaN P w K mg base CX0 2 f fd ["_law_cell_here", "_law_count"] (qfn K):=by
 have sc:=qds
 refine F.ok qds (fun vs H Q E h=>by obtain ⟨_,_,rfl,_⟩:=h;rfl) (fun cdv A outer s H vs Q E hr h=>?_)
 obtain ⟨x0,x1,rfl,h⟩:=h
 refine ⟨_,(qac (qay (i:=2) sc.nd rfl (Or.inr rfl) qak)
   (qac (qay (i:=3) sc.nd rfl (Or.inl rfl) (qar qb9 qaf (qar qbn (pec C_34 hr (qaa (pv 0) (qaa qaf qad))) qaf)))
   (qac (qay (i:=4) sc.nd rfl (Or.inl rfl) (qaS qad))
   (qac (qay (i:=5) sc.nd rfl (Or.inr rfl) (qdU ygp ygs ygt (qf3 (K:=K) rfl) qak (qaa (qbj (N:=["_law_j", "_law_letters", "_law_cell_here"]) (nt:=1) (caps:=[2,0]) qaT rfl (qaW (by rfl) T.n_range (qaa qaf qad)) (fun _ _ _ _ _=>(qaw (i:=0) (show List.Nodup (α:=Str) ["_law_j", "_law_letters", "_law_cell_here"] from by decide +kernel) rfl (Or.inl rfl))) qa2 (fun _ _ _ _ _=>qbi) (fun _ _ _ _ _=>(qcm (pv 1) (qar qbn (pec C_34 hr (qaa (pv 2) (qaa (qar qb9 qaf (pv 0)) qad))) qaf) (fun _ _=>rfl)))) qad)))
   (qac (qaF (qam (qaD (K:=K) rfl hr.units0) (qar qbn (pec C_34 hr (qaa (pv 0) (qaa qaf qad))) qaf) qaf (qaq _)) (qae (qal (qbj (N:=["_law_k", "_law_long"]) (nt:=1) (caps:=[5]) qaT rfl (qaW (by rfl) T.n_range (qaa (pv 1) qad)) (fun _ _ _ _ _=>(qaw (i:=0) (show List.Nodup (α:=Str) ["_law_k", "_law_long"] from by decide +kernel) rfl (Or.inl rfl))) qa2 (fun _ _ _ _ _=>qbi) (fun _ _ _ _ _=>(qcQ qnn (pv 1) qfe (qdd (qar qb9 (pv 0) qaf))))))) qan)
   (qac (qaF (qam (qaD (K:=K) rfl hr.units0) (qar qbn (pec C_34 hr (qaa (pv 0) (qaa qaf qad))) qaf) qaf (qaq _)) (qae (qal (qbj (N:=["_law_k", "_law_long"]) (nt:=1) (caps:=[5]) qaT rfl (qaW (by rfl) T.n_range (qaa (pv 1) qad)) (fun _ _ _ _ _=>(qaw (i:=0) (show List.Nodup (α:=Str) ["_law_k", "_law_long"] from by decide +kernel) rfl (Or.inl rfl))) qa2 (fun _ _ _ _ _=>qbi) (fun _ _ _ _ _=>(qcQ qnn (pv 1) (qdd (qar qnp qaf (pv 0))) qfe))))) qan)
   (qac (qcb PassesOwn.never rfl (qaW (by rfl) T.n_range (qaa (pv 1) qad)) (qaw (i:=6) sc.nd rfl (Or.inl rfl)) (qac (qpi (i:=7) sc.nd rfl rfl (by rfl) (N:=["_law_j", "_law_letters", "_law_cell_here"]) (nt:=1) (caps:=[2,0]) qaT rfl (qaW (by rfl) T.n_range (qaa (pv 3) qad)) (fun _ _ _ _ _=>(qaw (i:=0) (show List.Nodup (α:=Str) ["_law_j", "_law_letters", "_law_cell_here"] from by decide +kernel) rfl (Or.inl rfl))) qa2 (fun _ _ _ _ _=>qbi) (fun _ _ _ _ _=>(qcm (pv 1) (qar qbn (pec C_34 hr (qaa (pv 2) (qaa (qar qb9 qaf (pv 0)) qad))) qaf) (fun _ _=>rfl))))
   (qac (qqF (qcm (pv 2) (qar qbn (qar qb9 (pec C_34 hr (qaa (pv 0) (qaa qaf qad))) (qar qc4 qaf (pv 6))) qaf) (fun _ _=>rfl)) (qq5 (pv 7) (qar qbn (pec C_34 hr (qaa (pv 0) (qaa qaf qad))) (pv 3)) qlX))
   (qae (qdG (qdU ygu ygv ygw qeY (pv 4) (qaa (qdU ygp ygs ygt (qf3 (K:=K) rfl) qak (qaa (pv 7) qad)) qad)))))))
   (qae (qal (qbj (N:=["_law_word"]) (nt:=1) (caps:=[]) qaT rfl (qa3 (pv 4)) (fun _ _ _ _ _=>(qaw (i:=0) (show List.Nodup (α:=Str) ["_law_word"] from by decide +kernel) rfl (Or.inl rfl))) qa2 (fun _ _ _ _ _=>qbi) (fun _ _ _ _ _=>(qar qaG (pv 0) (qar qph qak (qcw qks (by rfl) T.n_int PyProof.Rows.boot_int (qaa (qe8 (qaD (K:=K) rfl hr.units0) (pv 0) qak (qaq _)) qad))))))))))))))),?_⟩
 refine rdg (σ':=[some x0,some x1,none,none,none,none,none,none]) rfl ?_
 obtain ⟨c,n,rfl,rfl,hn,q⟩:=h
 walk_at "rd"
 have hnn:(n:Int)<2^62:=by omega
 have hn0:-2^62<=(n:Int):=by omega
 have b13:∀k,qbh c k%13<13:=fun k=>ydo _ (by decide)
 have b26:∀k,qbh c k%26<26:=fun k=>ydo _ (by decide)
 refine ⟨_,_,rfl,c,40,rfl,rfl,by decide,?_⟩
 (try walk_at "rd")
 refine ⟨by decide,qaE (by simp),fun p hp=>⟨rfl,by decide,by decide,?_⟩⟩
 generalize g1:upd H p _=G1
 have a1:=qax g1
 have t1:=qau g1 hp
 rw [show Int.toNat 8=8 from rfl]
 refine qec (fun _=>true) (fun k => .str ⟨#[97+qbh c (41+k)%13]⟩) (by decide) (fun k hk H1 s1 R R' r1 r2=>?_) fun H1 p1 s1 hp1=>?_
 . (try walk_at "rd")
   refine ⟨_,_,rfl,c,41+k,rfl,by simp,by omega,?_⟩
   (try walk_at "rd")
   have e:=b13 (41+k)
   refine ⟨by decide,by omega,by omega,by rw [show (Str.ofString "abcdefghijklmnopqrstuvwxyz").length=26 from qf2];omega,_,qiR _ (by omega),?_⟩
   exact r1 rfl _ (qav.refl _)
 rw [yfp.mpr fun _ _=>rfl,qhJ]
 generalize g2:upd H1 p1 _=G2
 have a2:=qax g2
 have t2:=(t1.trans s1).trans (qau g2 hp1)
 have a1:=qau g2 hp1 _ _ (s1 _ _ a1)
 refine ⟨_,p1,_,rfl,rfl,SqL.of a2,qdk (M:=1) (N:=8) (fun y hy=>?_) (by simp) (by decide +kernel) (by decide),?_⟩
 . obtain ⟨k,_,rfl⟩:=ybq.mp hy
   exact yax 1
 obtain ⟨hz8,hzl⟩:=qod (ys:=(List.range 8).map fun k:Nat=>(⟨#[97+qbh c (41+k)%13]⟩:Str)) fun y hy=>by
   obtain ⟨k,_,rfl⟩:=ybq.mp hy
   have:=b13 (41+k)
   exact ⟨_,rfl,by omega,by omega⟩
 have hz13:=qrx (ys:=(List.range 8).map fun k:Nat=>(⟨#[97+qbh c (41+k)%13]⟩:Str)) fun y hy=>by
   obtain ⟨k,_,rfl⟩:=ybq.mp hy
   have:=b13 (41+k)
   exact ⟨_,rfl,by omega⟩
 rw [ybz,ygx] at hz8
 generalize _root_.PySem.Txt.join (Str.ofString "") ((List.range 8).map fun k:Nat=>(⟨#[97+qbh c (41+k)%13]⟩:Str))=z at hz8 hzl hz13 ⊢
 have zb:z.length<=100000:=by omega
 refine ⟨_,_,rfl,c,52,rfl,rfl,by decide,?_⟩
 (try walk_at "rd")
 refine ⟨by decide,qsR (fun h1=>⟨hn0,hnn,?_⟩) fun h1=>⟨_,_,rfl,c,52,rfl,rfl,by decide,?_⟩⟩
 . rw [yer]
   refine qec (fun _=>true) (fun k => .str (_root_.PySem.Txt.slice z none (some ((k+1:Nat):Int)))) (by omega) (fun k hk H2 s2 R R' r1 r2=>?_) fun H2 p2 s2 hp2=>?_
   . (try walk_at "rd")
     exact ⟨_,rfl,zb,r1 rfl _ (qav.refl _)⟩
   rw [yfp.mpr fun _ _=>rfl,qhJ]
   have ln:∀k,k<n->(_root_.PySem.Txt.slice z none (some ((k+1:Nat):Int))).length=k+1:=fun k hk=>qra (by omega)
   refine q p2 _ _ (qaM (t2.trans s2) hp2) ((t2.trans s2).trans (qav.new hp2)) qaj (qjP (by omega) (fun k hk=>?_) (fun i j hij hj e=>?_) fun k hk=>qiT fun c hc=>hz13 c (qeD c hc)) (by simp)
   . have:=ln k hk
     exact ⟨by omega,by omega,qiO hzl⟩
   . have z1:=ln i (by omega)
     have z2:=ln j hj
     rw [e] at z1
     omega
 (try walk_at "rd")
 refine ⟨by decide,qsR (fun h2=>⟨hn0,hnn,?_⟩) fun h2=>⟨hn0,hnn,?_⟩⟩
 . rw [yer]
   refine qec (fun _=>true) (fun k => .str (_root_.PySem.Txt.slice z (some ((7-k:Nat):Int)) none)) (by omega) (fun k hk H2 s2 R R' r1 r2=>?_) fun H2 p2 s2 hp2=>?_
   . (try walk_at "rd")
     rw [show (7:Int)-(k:Nat)=((7-k:Nat):Int) by omega]
     exact ⟨_,rfl,zb,r1 rfl _ (qav.refl _)⟩
   rw [yfp.mpr fun _ _=>rfl,qhJ]
   have ln:∀k,k<n->(_root_.PySem.Txt.slice z (some ((7-k:Nat):Int)) none).length=k+1:=fun k hk=>by
     have:=qmA (z:=z) (i:=7-k) (by omega)
     omega
   refine q p2 _ _ (qaM (t2.trans s2) hp2) ((t2.trans s2).trans (qav.new hp2)) qaj (qjP (by omega) (fun k hk=>?_) (fun i j hij hj e=>?_) fun k hk=>qiT fun c hc=>hz13 c (qeD c hc)) (by simp)
   . have:=ln k hk
     exact ⟨by omega,by omega,qiO hzl⟩
   . have z1:=ln i (by omega)
     have z2:=ln j hj
     rw [e] at z1
     omega
 rw [yer]
 have hs:=ydo (qbh c 40) (show 0<8 by decide)
 have es:(1:Int)+((qbh c 40:Nat):Int)%8=((1+qbh c 40%8:Nat):Int):=by omega
 rw [es]
 have hS1:1<=1+qbh c 40%8:=by omega
 have hS8:1+qbh c 40%8<=8:=by omega
 generalize 1+qbh c 40%8=S at hS1 hS8 ⊢
 have ub:=ydo (qbh c 50) (show 0<S by omega)
 refine qiD (fun i σ H'=>∃(v6 v7:Option V),σ=[some (.int c),some (.int (n:Nat)),some (.str (Str.ofString "abcdefghijklmnopqrstuvwxyz")),some (.int (S:Nat)),some (.ref p),some (.str z),v6,v7]/\qav H H'/\H' p=some (.lst (sV ((List.range i).map (wdN ((List.range S).map fun j=>97+qbh c (41+j)%26) (qbh c 50%S) (qbh c 51)))))) ⟨none,none,rfl,t2,a1⟩ ?_ ?_
 . rintro i σ H3 hi ⟨v6,v7,rfl,s3,a3⟩ N hN
   (try walk_at "rd")
   refine ⟨by omega,by omega,?_⟩
   rw [yer]
   refine qec (fun _=>true) (fun j => .str (one (97+qbh c (41+j)%26))) (by omega) (fun j hj H4 s4 R R' r1 r2=>?_) fun H4 p4 s4 hp4=>?_
   . (try walk_at "rd")
     refine ⟨_,_,rfl,c,41+j,rfl,by simp,by omega,?_⟩
     (try walk_at "rd")
     have e:=b26 (41+j)
     refine ⟨by decide,by omega,by omega,by rw [show (Str.ofString "abcdefghijklmnopqrstuvwxyz").length=26 from qf2];omega,_,qiR _ (by omega),?_⟩
     exact r1 rfl _ (qav.refl _)
   rw [yfp.mpr fun _ _=>rfl,qhJ]
   generalize g4:upd H4 p4 _=G4
   have a4:=qax g4
   have t4:=(s3.trans s4).trans (qau g4 hp4)
   have np:p≠p4:=qaX (s4 _ _ a3) hp4
   have a3:=qau g4 hp4 _ _ (s4 _ _ a3)
   have np4:H p4=none:=qaM (s3.trans s4) hp4
   have ex:(((qbh c 51:Nat):Int)+3*(i:Nat))%26=(((qbh c 51+3*i)%26:Nat):Int):=by omega
   have x26:=ydo (qbh c 51+3*i) (show 0<26 by decide)
   refine ⟨_,_,rfl,c,51,rfl,rfl,by decide,.inl ⟨by decide,by decide⟩,?_⟩
   (try walk_at "rd")
   rw [ex]
   refine ⟨by decide,by omega,by omega,by rw [show (Str.ofString "abcdefghijklmnopqrstuvwxyz").length=26 from qf2];omega,_,qiR _ (by omega),?_⟩
   refine ⟨_,_,rfl,c,50,rfl,rfl,by decide,?_⟩
   (try walk_at "rd")
   refine ⟨by omega,p4,_,_,qbh c 50%S,rfl,rfl,a4,qq1 (by rw [qbv,ybz,ygx];exact ub),?_⟩
   rw [yer]
   have es:(sV ((List.range S).map fun j=>one (97+qbh c (41+j)%26))).set (qbh c 50%S) (.str ⟨#[97+(qbh c 51+3*i)%26]⟩)=sV ((((List.range S).map fun j=>97+qbh c (41+j)%26).set (qbh c 50%S) (97+(qbh c 51+3*i)%26)).map one):=by
     unfold sV
     simp only [List.map_set,yds]
     rfl
   rw [es]
   generalize g5:upd G4 p4 _=G5
   have a5:G5 p4=some (.lst (sV ((((List.range S).map fun j=>97+qbh c (41+j)%26).set (qbh c 50%S) (97+(qbh c 51+3*i)%26)).map one))):=by rw [<-g5];exact qaj
   have b3:G5 p=some (.lst (sV ((List.range i).map (wdN ((List.range S).map fun j=>97+qbh c (41+j)%26) (qbh c 50%S) (qbh c 51))))):=by rw [<-g5,qap np];exact a3
   have t5:qav H G5:=by rw [<-g5];exact t4.upd np4
   refine ⟨qdw b3,rfl,_,p4,_,rfl,rfl,SqL.of a5,qdk (M:=1) (N:=8) (fun y hy=>?_) (by rw [ybz,yev,ybz,ygx];exact hS8) (by decide +kernel) (by decide),?_⟩
   . obtain ⟨k,_,rfl⟩:=ybq.mp hy
     exact yax 1
   refine ⟨p,_,_,rfl,rfl,b3,qgg (by rw [qbv,ybz,ygx];omega),hN _ _ ⟨_,_,rfl,t5.upd hp,?_⟩⟩
   rw [qaj,ydb,ycz]
   show _=some (HO.lst (List.map V.str (_++_)))
   rw [ycz]
   rfl
 . rintro σ H3 ⟨v6,v7,rfl,s3,a3⟩
   (try walk_at "rd")
   refine ⟨⟨_,SqL.of a3⟩,qkH (fs:=sV ((List.range n).map (wdN ((List.range S).map fun j=>97+qbh c (41+j)%26) (qbh c 50%S) (qbh c 51)))) (fun _=>true) (fun v=>match v with | .str y => .str (qdp y) | v=>v) (SqL.of a3) (by rw [qbv,ybz,ygx];omega) (fun x hx H4 s4 R R' r1 r2=>?_) fun H4 p4 s4 hp4=>?_⟩
   . obtain ⟨y,hy,rfl⟩:=ybq.mp hx
     obtain ⟨k,hk,rfl⟩:=ybq.mp hy
     have ly:=qeR ((List.range S).map fun j=>97+qbh c (41+j)%26) (qbh c 50%S) (qbh c 51) k
     rw [ybz,ygx] at ly
     generalize wdN ((List.range S).map fun j=>97+qbh c (41+j)%26) (qbh c 50%S) (qbh c 51) k=y at ly r1 ⊢
     (try walk_at "rd")
     have zz:100000<=sizeLine:=by decide
     by_cases e:y=Str.ofString "none"
     . rw [if_pos e]
       refine .inr ⟨_,1,rfl,rfl,by decide,by decide,by decide +kernel,fun r hr hl=>?_⟩
       rw [show (Str.ofString "s").length=1 by decide +kernel] at hl
       refine ⟨_,rfl,by omega,?_⟩
       rw [qrf e hr (by omega)]
       exact r1 rfl _ (qav.refl _)
     . rw [if_neg e]
       refine .inl ⟨_,rfl,rfl,_,rfl,by rw [show Str.empty.length=0 from rfl];omega,?_⟩
       rw [qrb e]
       exact r1 rfl _ (qav.refl _)
   . rw [yfp.mpr fun _ _=>rfl]
     rw [show (sV ((List.range n).map (wdN ((List.range S).map fun j=>97+qbh c (41+j)%26) (qbh c 50%S) (qbh c 51)))).map (fun v=>match v with | .str y => .str (qdp y) | v=>v)=sV ((List.range n).map fun k=>qdp (wdN ((List.range S).map fun j=>97+qbh c (41+j)%26) (qbh c 50%S) (qbh c 51) k)) from by unfold sV;rw [yds,yds,yds];rfl]
     refine q p4 _ _ (qaM (s3.trans s4) hp4) ((s3.trans s4).trans (qav.new hp4)) qaj (qoN hn (by simpa using hS1) (by simpa using hS8) (fun y hy=>?_) (by simpa using ub)) (by simp)
     obtain ⟨j,_,rfl⟩:=ybq.mp hy
     have:=b26 (41+j)
     omega
abbrev qcT:Stmt:=top 10
def qhH:qai ["many", "thing"] ["many", "thing"] (qab qcT):=fsc
def qoc:Sp:=sp2 fun m x H Q=>(∃(k:Nat) (i:Int),m = .int k/\x = .int i/\k<=8/\Q (.bl (decide (0<=i)&&decide (i<(2^k:Nat)))) H)\/∃t,qkT H x=some t/\t ≠ "int" /\ Q (.bl false) H
def qkN {f:Addr} {fd:FuncData} (F:Fun K "is_set" "is_set" qcT f fd) (T:Txt mg) {f_33:Addr} {fd_33:FuncData} (C_33:Cal P w K mg base "is_whole" 1 ["thing"] qhQ f_33 fd_33):qaN P w K mg base CX0 2 f fd ["many", "thing"] qoc:=by
 have sc:=qhH
 refine F.ok qhH (fun vs H Q E h=>by obtain ⟨_,_,rfl,_⟩:=h;rfl) (fun cdv A outer s H vs Q E hr h=>?_)
 obtain ⟨x0,x1,rfl,h⟩:=h
 refine ⟨_,(qae (qal (qlu (pec C_33 hr (qaa (pv 1) qad)) (qjS (qgm qng qlS qaf (pv 1) (qar qeg qaf (pv 0))))))),?_⟩
 refine rdg (σ':=[some x0,some x1]) rfl ?_
 walk_at "rd"
 rcases h with ⟨k,i,rfl,rfl,hk8,q⟩ | ⟨t,hk,hne,q⟩
 . refine ⟨_,rfl, "int",rfl,true,rfl,qjF ?_⟩
   walk_at "rd"
   split
   . rename_i h0
     rw [decide_eq_true h0,yfh] at q
     refine ⟨qcD (by omega) (by omega) (by decide) (by decide),?_⟩
     rw [qdc]
     exact q
   . rename_i h0
     rw [decide_eq_false h0,yee] at q
     exact q
 . exact ⟨_,rfl,t,hk,false,by rw [qmr hne],qgJ q⟩
abbrev qbD:Stmt:=top 18
def qea:qai ["many", "thing", "before", "one"] ["many", "thing"] (qab qbD):=fsc
/-- how far the items are sets that rise,from b on -/
def qjQ (m:Nat):Int->List V->Bool
 | _,[]=>true
 | b,x::r=>match x with | .int i=>decide (0<=i)&&decide (i<(2^m:Nat))&&decide (b<i)&&qjQ m i r | _=>false
/-- the items are of kinds that are told -/
def Kd (H:Hp) (xs:List V):Prop:=∀x∈xs,∃t,qkT H x=some t
def qrs {H:Hp} {x:V} {t:String} (h:qkT H x=some t) (hn:∀i,x ≠ .int i):t ≠ "int" := by
 intro e
 subst e
 cases x with
 | int i=>exact hn i rfl
 | non=>exact absurd (Option.some.inj h) (by decide)
 | bl b=>exact absurd (Option.some.inj h) (by decide)
 | str z=>exact absurd (Option.some.inj h) (by decide)
 | byt z=>cases h
 | flt z=>cases h
 | ty z=>cases h
 | ref a =>
   unfold qkT at h
   dsimp only at h
   split at h<;>first | exact absurd (Option.some.inj h) (by decide) | cases h
def qpq {m:Nat} {b:Int} {x:V} {r:List V} (hn:∀i,x ≠ .int i):qjQ m b (x::r)=false:=by
 cases x with
 | int i=>exact absurd rfl (hn i)
 | _=>rfl
def qm3 {t:String} (h:t ≠ "list"):qlO t "list" = false:=by
 unfold qlO
 rw [show (t == "list")=false from beq_eq_false_iff_ne.mpr h]
 cases (t == "bool")<;>rfl
def qit (K:W.Frag):Sp:=sp2 fun x y H Q=>∃m:Nat,x = .int m/\m<=8/\((∃(p:Addr) (xs:List V),y = .ref p/\H p=some (.lst xs)/\xs.length<=1000/\Kd H xs/\Q (.bl (decide (xs.length<=70)&&qjQ m (-1) xs)) H)\/∃t,qkT H y=some t/\t ≠ "list" /\ Q (.bl false) H)
def qg4 {f:Addr} {fd:FuncData} (F:Fun K "is_family" "is_family" qbD f fd) (T:Txt mg) {f_47:Addr} {fd_47:FuncData} (C_47:Cal P w K mg base "is_set" 2 ["many", "thing"] qoc f_47 fd_47):qaN P w K mg base CX0 3 f fd ["many", "thing"] (qit K):=by
 have sc:=qea
 refine F.ok qea (fun vs H Q E h=>by obtain ⟨_,_,rfl,_⟩:=h;rfl) (fun cdv A outer s H vs Q E hr h=>?_)
 obtain ⟨x0,x1,rfl,h⟩:=h
 refine ⟨_,(qac (qaF (PW.pt (qhE (qcr (qbw (qat qb2 (by rfl) T.n_isinstance PyProof.Rows.boot_isinstance (qaa (pv 1) (qaa (qdN (v := .ty "list") (by rfl) T.n_list PyProof.Rows.boot_list rfl) qad))))) (qeX (qam qmW (qat (qaL (K:=K) rfl) (by rfl) T.n_len PySem.boot_len (qaa (pv 1) qad)) (qet T.c_MOST_SETS (by rfl)) (qaq _))))) (qae (qal qfE)) qan)
   (qac (qay (i:=2) sc.nd rfl (Or.inl rfl) (qoJ qp1 qaf))
   (qac (qcb PassesOwn.never rfl (qa3 (pv 1)) (qaw (i:=3) sc.nd rfl (Or.inl rfl)) (qac (qaF (PW.pt (qhE (qcr (qbw (pec C_47 hr (qaa (pv 0) (qaa (pv 3) qad))))) (qeX (qam qng (pv 3) (pv 2) (qaq _))))) (qae (qal qfE)) qan)
   (qae (qay (i:=2) sc.nd rfl (Or.inl rfl) (pv 3)))))
   (qae (qal qfE))))),?_⟩
 refine rdg (σ':=[some x0,some x1,none,none]) rfl ?_
 obtain ⟨m,rfl,hm,h⟩:=h
 walk_at "rd"
 rcases h with ⟨p,xs,rfl,f1,hl,kd,q⟩ | ⟨t,hk,hne,q⟩
 . refine ⟨_, "list",⟨rfl,rfl⟩, "list",qqQ f1,by decide,?_⟩
   rw [if_neg (by decide)]
   refine ⟨p,rfl,_,.inl (SqL.of f1),?_⟩
   (try walk_at "rd")
   by_cases h70:xs.length<=70
   . rw [if_neg (by omega)]
     rw [decide_eq_true h70,yfh] at q
     refine ⟨⟨_,SqL.of f1⟩,qi3 (xs:=xs) (fun i σ H'=>∃(b:Int) (v:Option V),σ=[some (.int m),some (.ref p),some (.int b),v]/\H'=H/\qjQ m (-1) xs=qjQ m b (xs.drop i)) ⟨-1,none,rfl,rfl,rfl⟩ (fun i σ H' _ ⟨_,_,_,e,_⟩=>e▸SqL.of f1) ?_ ?_⟩
     . rintro i x σ H' hx ⟨b,v,rfl,rfl,ef⟩ N hN
       have hi:=ycd.mp hx
       have ed:xs.drop i=x::xs.drop (i+1):=by rw [ygy hi.1,hi.2]
       rw [ed] at ef
       obtain ⟨t,ht⟩:=kd x (ybv hx)
       (try walk_at "rd")
       by_cases hz:∃z,x = .int z
       . obtain ⟨z,rfl⟩:=hz
         refine ⟨_,_,rfl,.inl ⟨m,z,rfl,rfl,hm,?_⟩⟩
         have ef':qjQ m (-1) xs=(decide (0<=z)&&decide (z<(2^m:Nat))&&decide (b<z)&&qjQ m z (xs.drop (i+1))):=ef
         (try walk_at "rd")
         by_cases hs:(decide (0<=z)&&decide (z<(2^m:Nat)))=false
         . rw [if_pos hs]
           rw [ef',hs,yee,yee] at q
           exact q
         . rw [if_neg hs]
           rw [(Bool.not_eq_false _).mp hs,yfh] at ef'
           by_cases hb:b<z
           . rw [if_neg (by omega)]
             rw [decide_eq_true hb,yfh] at ef'
             exact hN _ _ ⟨z,_,rfl,rfl,ef'⟩
           . rw [if_pos (by omega)]
             rw [ef',decide_eq_false hb,yee] at q
             exact q
       . have hz':∀i,x ≠ .int i:=fun i e=>hz ⟨i,e⟩
         refine ⟨_,_,rfl,.inr ⟨t,ht,qrs ht hz',?_⟩⟩
         (try walk_at "rd")
         rw [ef,qpq hz'] at q
         exact q
     . rintro σ H' ⟨b,v,rfl,rfl,ef⟩
       rw [List.drop_length] at ef
       rw [ef] at q
       (try walk_at "rd")
       exact q
   . rw [if_pos (by omega)]
     rw [decide_eq_false h70,yee] at q
     exact q
 . refine ⟨_, "list",⟨rfl,rfl⟩,t,hk,by decide,?_⟩
   rw [qm3 hne]
   exact q
abbrev qbY:Stmt:=top 11
def qeV:qai ["one"] ["one"] (qab qbY):=fsc
def qhr:Sp:=sp1 fun x H Q=>∃a:Nat,x = .int a/\a<256/\∀H' p,qav H H'->H' p=none->Q (.ref p) (upd H' p (.lst (nV (Fam.nms 8 a))))
def qmE:∀a:Nat,a<256->(List.range (Builtin.Int.intBits (a:Int))).filter (fun k=>a.testBit k)=Fam.nms 8 a:=by decide +kernel
def qpt:∀a:Nat,a<256->Builtin.Int.intBits (a:Int)<=8:=by decide +kernel
def qh0 {f:Addr} {fd:FuncData} (F:Fun K "names_in" "names_in" qbY f fd) (T:Txt mg)  : qaN P w K mg base CX0 1 f fd ["one"] qhr:=by
 have sc:=qeV
 refine F.ok qeV (fun vs H Q E h=>by obtain ⟨_,rfl,_⟩:=h;rfl) (fun cdv A outer s H vs Q E hr h=>?_)
 obtain ⟨x0,rfl,h⟩:=h
 refine ⟨_,(qae (qal (qbj (N:=["k", "one"]) (nt:=1) (caps:=[0]) qaT rfl (qaW (by rfl) T.n_range (qaa (qp9 PySem.F.plainAttrs_int PySem.F.slot_int_bit_length PySem.F.type_int_bit_length qla (pv 0)) qad)) (fun _ _ _ _ _=>(qaw (i:=0) (show List.Nodup (α:=Str) ["k", "one"] from by decide +kernel) rfl (Or.inl rfl))) qa2 (fun _ _ _ _ _=>(qgy (qam (qaD (K:=K) rfl hr.units0) (qar qf1 (qar qnr (pv 1) (pv 0)) qaf) qaf (qaq _)))) (fun _ _ _ _ _=>(pv 0))))),?_⟩
 refine rdg (σ':=[some x0]) rfl ?_
 obtain ⟨a,rfl,ha,q⟩:=h
 walk_at "rd"
 have hb:=qpt a ha
 refine ⟨by simp [tyV],by omega,by omega,?_⟩
 rw [yer]
 refine qec (fun k=>a.testBit k) (fun k => .int (k:Nat)) (by omega) (fun k hk H1 sm R R' r1 r2=>?_) fun H1 p sm hp=>?_
 . walk_at "rd"
   refine ⟨by omega,qkI qnZ (fun hc=>r1 hc _ (qav.refl _)) fun hc=>r2 hc _ (qav.refl _)⟩
 . rw [qmS,qmE a ha]
   exact q H1 p sm hp
abbrev qcS:Stmt:=top 12
def qgW:qai ["names", "one", "k"] ["names"] (qab qcS):=fsc
def qhS (K:W.Frag):Sp:=sp1 fun x H Q=>∃p fs,x = .ref p/\SqL K H p (nV fs)/\(∀k∈fs,k<8)/\Q (.int (Fam.ofN fs:Nat)) H
def qkY {fs:List Nat} {i a:Nat} (h:fs[i]?=some a):fs.take (i+1)=fs.take i++[a]:=by rw [yfv,h];rfl
def qiJ (L:List Nat) (a:Nat):Fam.ofN (L++[a])=Fam.ofN L|||2^a:=by unfold Fam.ofN;rw [yaq];rfl
def qlA {f:Addr} {fd:FuncData} (F:Fun K "set_of" "set_of" qcS f fd) (T:Txt mg)  : qaN P w K mg base CX0 1 f fd ["names"] (qhS K):=by
 have sc:=qgW
 refine F.ok qgW (fun vs H Q E h=>by obtain ⟨_,rfl,_⟩:=h;rfl) (fun cdv A outer s H vs Q E hr h=>?_)
 obtain ⟨x0,rfl,h⟩:=h
 refine ⟨_,(qac (qay (i:=1) sc.nd rfl (Or.inl rfl) qaf)
   (qac (qcb PassesOwn.never rfl (qa3 (pv 0)) (qaw (i:=2) sc.nd rfl (Or.inl rfl)) (qae (qay (i:=1) sc.nd rfl (Or.inl rfl) (qar qpg (pv 1) (qar qeg qaf (pv 2))))))
   (qae (qal (pv 1))))),?_⟩
 refine rdg (σ':=[some x0,none,none]) rfl ?_
 obtain ⟨p,fs,rfl,hq,hb,q⟩:=h
 walk_at "rd"
 refine ⟨⟨_,hq⟩,qon (xs:=nV fs) (fun i σ H'=>∃v,σ=[some (.ref p),some (.int (Fam.ofN (fs.take i):Nat)),v]/\H'=H) ⟨none,rfl,rfl⟩ (fun i σ H' _ ⟨v,_,e⟩=>e▸hq) ?_ ?_⟩
 . rintro i x σ H' hx ⟨v,rfl,rfl⟩
   obtain ⟨a,ha,rfl⟩:=qnO hx
   have h8:=hb a (ybv ha)
   walk_at "rd"
   refine ⟨qcD (by omega) (by omega) (by decide) (by decide),?_⟩
   rw [qkY ha,qiJ,<-qj6,qdc]
 . rintro σ H' ⟨v,rfl,rfl⟩
   rw [qb6,yco]
   exact ⟨_,rfl,q⟩
abbrev qcX:Stmt:=top 33
def qhd:qai ["text", "sign"] ["text", "sign"] (qab qcX):=fsc
def qdg:Sp:=sp2 fun x y H Q=>∃z s:Str,x = .str z/\y = .str s/\(s.length==0)=false/\z.length<=10000/\∀p H',H p=none->qav H H'->H' p=some (.lst (sV (Txt.split z s)))->Q (.ref p) H'
def qls {f:Addr} {fd:FuncData} (F:Fun K "parted" "parted" qcX f fd) (T:Txt mg)  : qaN P w K mg base CX0 1 f fd ["text", "sign"] qdg:=by
 have sc:=qhd
 refine F.ok qhd (fun vs H Q E h=>by obtain ⟨_,_,rfl,_⟩:=h;rfl) (fun cdv A outer s H vs Q E hr h=>?_)
 obtain ⟨x0,x1,rfl,h⟩:=h
 refine ⟨_,(qac (qaF (qcr (qbw (qat qb2 (by rfl) T.n_isinstance PyProof.Rows.boot_isinstance (qaa (pv 0) (qaa (qdN (v := .ty "str") (by rfl) T.n_str PyProof.Rows.boot_str rfl) qad))))) (qae qco) qan)
   (qae (qal (qdU ygp ygz yha qgG (pv 0) (qaa (pv 1) qad))))),?_⟩
 refine rdg (σ':=[some x0,some x1]) rfl ?_
 obtain ⟨z,s,rfl,rfl,hs,hz,q⟩:=h
 walk_at "rd"
 refine ⟨_,_,⟨rfl,rfl⟩, "str",rfl,by decide,?_⟩
 rw [if_neg (by decide)]
 exact ⟨rfl,z,s,rfl,rfl,hs,by omega,fun l hl=>q l _ hl (qav.new hl) qaj⟩
abbrev qce:Stmt:=top 32
def qfL:qai ["text"] ["text"] (qab qce):=fsc
def qex:Sp:=sp1 fun x H Q=>∃z:Str,x = .str z/\Tx.Wd z/\∀H',qav H H'->Q (.bl true) H'
def qjC {f:Addr} {fd:FuncData} (F:Fun K "is_word" "is_word" qce f fd) (T:Txt mg)  : qaN P w K mg base CX0 1 f fd ["text"] qex:=by
 have sc:=qfL
 refine F.ok qfL (fun vs H Q E h=>by obtain ⟨_,rfl,_⟩:=h;rfl) (fun cdv A outer s H vs Q E hr h=>?_)
 obtain ⟨x0,rfl,h⟩:=h
 refine ⟨_,(qae (qal (qlu (qgm qng qng qaf (qat qhe (by rfl) T.n_len PySem.boot_len (qaa (pv 0) qad)) (qet T.c_MOST_LETTERS (by rfl))) (qjS (qat (qmO (K:=K) rfl rfl) (by rfl) T.n_all PyProof.Rows.boot_all (qaa (qbj (N:=["sign"]) (nt:=1) (caps:=[]) qaT rfl (qqX (pv 0)) (fun _ _ _ _ _=>(qaw (i:=0) (show List.Nodup (α:=Str) ["sign"] from by decide +kernel) rfl (Or.inl rfl))) qa2 (fun _ _ _ _ _=>qbi) (fun _ _ _ _ _=>(qgm qhg qhg qak (pv 0) qak))) qad)))))),?_⟩
 refine rdg (σ':=[some x0]) rfl ?_
 obtain ⟨z,rfl,hz,q⟩:=h
 walk_at "rd"
 have e24:sizeLine=16777216:=sizeLine_eq
 obtain ⟨h1,h8,hc⟩:=id hz
 refine ⟨by omega,?_⟩
 rw [if_pos (by omega),if_pos (by omega)]
 refine ⟨qna hz,qqG (fun _=>true) (fun _ => .bl true) (by omega) (fun x hx H1 s1 R R' r1 r2=>?_) fun H1 p s1 hp=>?_⟩
 . obtain ⟨c1,c2⟩:=hc x hx
   (try walk_at "rd")
   have b1:=qtj c1
   have b2:(!decide (("z" : Str).cps.toList < [x]))=true:=qta c2
   refine ⟨true,by simpa using b1,qjF ?_⟩
   rw [b2]
   exact r1 rfl _ (qav.refl _)
 . refine ⟨p,(sgs z).map fun _=>true,rfl,SqL.of ?_,?_⟩
   . rw [qaj,yfp.mpr fun _ _=>rfl,yds]
     rfl
   . rw [show ((sgs z).map fun _=>true).all id=true by simp]
     exact q _ (s1.trans (qav.new hp))
abbrev qbp:Stmt:=top 26
def qdv:qai ["text", "words", "word"] ["text"] (qab qbp):=fsc
def qc8 (K:W.Frag):Sp:=sp1 fun x H Q=>∃ws:List Str,x = .str (Txt.join " " ws)/\Tx.Wds ws/\∀p H',H p=none->qav H H'->H' p=some (.lst (sV ws))->Q (.ref p) H'
def qgx {f:Addr} {fd:FuncData} (F:Fun K "read_names" "read_names" qbp f fd) (T:Txt mg) {f_49:Addr} {fd_49:FuncData} (C_49:Cal P w K mg base "parted" 1 ["text", "sign"] qdg f_49 fd_49) {f_44:Addr} {fd_44:FuncData} (C_44:Cal P w K mg base "is_word" 1 ["text"] qex f_44 fd_44):qaN P w K mg base CX0 2 f fd ["text"] (qc8 K):=by
 have sc:=qdv
 refine F.ok qdv (fun vs H Q E h=>by obtain ⟨_,rfl,_⟩:=h;rfl) (fun cdv A outer s H vs Q E hr h=>?_)
 obtain ⟨x0,rfl,h⟩:=h
 refine ⟨_,(qac (qay (i:=1) sc.nd rfl (Or.inl rfl) (pec C_49 hr (qaa (pv 0) (qaa qak qad))))
   (qac (qaF (qam (qaD (K:=K) rfl hr.units0) (pv 1) (qaS (qaa qak qad)) (qaq _)) (qae (qal (qaS qad))) qan)
   (qac (qaF (PW.pt (qhE (qam qmW (qat (qaL (K:=K) rfl) (by rfl) T.n_len PySem.boot_len (qaa (pv 1) qad)) (qet T.c_MOST_NAMES (by rfl)) (qaq _)) (qeX (qam qlS (qat (qkm (P:=P) (w:=w) rfl rfl) (by rfl) T.n_len PySem.boot_len (qaa (qcw (qjH (P:=P) (w:=w) (K:=K) rfl rfl rfl rfl) (by rfl) T.n_set PyProof.Rows.boot_set (qaa (pv 1) qad)) qad)) (qat (qaL (K:=K) rfl) (by rfl) T.n_len PySem.boot_len (qaa (pv 1) qad)) (qaq _))))) (qae qco) qan)
   (qac (qcb PassesOwn.never rfl (qa3 (pv 1)) (qaw (i:=2) sc.nd rfl (Or.inl rfl)) (qae (qaF (PW.pt (qhE (qcr (qbw (pec C_44 hr (qaa (pv 2) qad)))) (qeX (qam (qaD (K:=K) rfl hr.units0) (pv 2) (qez T.c_NO_SETS (by rfl)) (qaq _))))) (qae qco) qan)))
   (qae (qal (pv 1))))))),?_⟩
 refine rdg (σ':=[some x0,none,none]) rfl ?_
 obtain ⟨ws,rfl,hw,q⟩:=h
 walk_at "rd"
 by_cases h0:ws=[]
 . subst h0
   refine ⟨_,_,rfl,_,_,rfl,rfl,by rw [Tx.lit_space];rfl,by decide +kernel,fun p1 G1 hp1 s1 a1=>?_⟩
   rw [show Txt.split (Txt.join (" " : Str) []) " " = [("" : Str)] from by decide +kernel] at a1
   (try walk_at "rd")
   refine ⟨qaE (by simp),fun p2 hp2=>?_⟩
   generalize g2:upd G1 p2 _=G2
   have a2:G2 p2=some (.lst (sV [("" : Str)])):=qax g2
   have s2:=qau g2 hp2
   refine qnk (SqL.of (s2 _ _ a1)) (SqL.of a2) (qc3 _) (qc3 _) ?_
   rw [qiy]
   refine ⟨true,by simp,qjF ⟨qaE (by simp),fun p3 hp3=>?_⟩⟩
   have s12:=s1.trans s2
   exact q _ _ (qaM s12 hp3) (s12.trans (qav.new hp3)) qaj
 have hn:0<ws.length:=List.length_pos_iff.mpr h0
 have h8:=hw.few
 have hL:(Txt.join (" " : Str) ws).length<=100:=by
   rw [<-Tx.len_sg,Tx.lit_space,Tx.txt_join]
   refine ycf (Tx.jn_len (M:=8) fun x hx=>?_) (ycf (yfy 9 (by rw [ybz];exact h8)) (by decide))
   obtain ⟨w,hw',rfl⟩:=ybq.mp hx
   rw [Tx.len_sg]
   exact (hw.wd w hw').2.1
 refine ⟨_,_,rfl,_,_,rfl,rfl,by rw [Tx.lit_space];rfl,by omega,fun p1 G1 hp1 s1 a1=>?_⟩
 rw [show Txt.split (Txt.join (" " : Str) ws) " " = ws from by rw [Tx.lit_space];exact Tx.split_join h0 fun w hw'=>(hw.wd w hw').free (by decide)] at a1
 (try walk_at "rd")
 refine ⟨qaE (by simp),fun p2 hp2=>?_⟩
 generalize g2:upd G1 p2 _=G2
 have a2:G2 p2=some (.lst (sV [("" : Str)])):=qax g2
 have s2:=qau g2 hp2
 have a1':=s2 _ _ a1
 refine qnk (SqL.of a1') (SqL.of a2) (qc3 _) (qc3 _) ?_
 rw [qiy]
 have ne:ws≠[("" : Str)]:=fun z=>by
   have hm:=hw.wd "" (by rw [z];exact ybb)
   have:=hm.1
   rw [Tx.lit_empty] at this
   exact absurd this (by decide)
 refine ⟨false,by simpa using ne,qgJ ?_⟩
 refine ⟨_,.inl (SqL.of a1'),?_⟩
 rw [qbv,if_neg (by omega)]
 refine ⟨p1,ws,rfl,SqL.of a1',by omega,fun p3 hp3=>?_⟩
 rw [qq6 hw.nd]
 generalize g3:upd G2 p3 _=G3
 have a3:=qax g3
 have s3:=qau g3 hp3
 have a1'':=s3 _ _ a1'
 refine ⟨p3,_,rfl,a3,by omega,?_⟩
 refine ⟨_,.inl (SqL.of a1''),?_⟩
 (try walk_at "rd")
 rw [qbv,if_neg (by omega)]
 refine ⟨⟨_,SqL.of a1''⟩,qi3 (xs:=sV ws) (fun i σ H'=>∃v,σ=[some (.str (Txt.join (" " : Str) ws)),some (.ref p1),v]/\qav G3 H') ⟨none,rfl,qav.refl _⟩ (fun i σ H' _ ⟨_,_,e⟩=>SqL.of (e _ _ a1'')) ?_ ?_⟩
 . rintro i x σ H4 hx ⟨v,rfl,s4⟩ N hN
   obtain ⟨w,hw',rfl⟩:=ybq.mp (ybv hx)
   (try walk_at "rd")
   refine ⟨_,rfl,w,rfl,hw.wd w hw',fun H5 s5=>⟨true,rfl,?_⟩⟩
   rw [if_neg (by decide)]
   have nn:w≠("none" : Str):=fun z=>hw.no (by rw [<-z];exact hw')
   rw [if_neg nn]
   exact hN _ _ ⟨_,rfl,s4.trans s5⟩
 . rintro σ H4 ⟨v,rfl,s4⟩
   (try walk_at "rd")
   exact q p1 _ hp1 (((s1.trans s2).trans s3).trans s4) (s4 _ _ a1'')
abbrev qbH:Stmt:=top 31
def qd7:qai ["words", "word"] ["words", "word"] (qab qbH):=fsc
def qcV (K:W.Frag) (cX:Addr):Sp:=qpX fun x y H Q E=>∃(p:Addr) (ws:List Str) (w:Str),x = .ref p/\H p=some (.lst (sV ws))/\ws.length<=8/\y = .str w/\(w∈ws->Q (.int (ws.idxOf w:Nat)) H)/\(w∉ws->E (.ref cX) none H)
def qgY {f:Addr} {fd:FuncData} (F:Fun K "read_name" "read_name" qbH f fd) (T:Txt mg) {cD aW cX cN cF cH cO cM:Addr} (Z:Xt P w K mg cD aW cX cN cF cH cO cM)  : qaN P w K mg base (CX1 P w) 1 f fd ["words", "word"] (qcV K cX):=by
 have sc:=qd7
 refine F.okX qd7 (fun vs H Q E h=>by obtain ⟨_,_,rfl,_⟩:=h;rfl) (fun cdv A outer s H vs Q E hr h=>?_)
 obtain ⟨x0,x1,rfl,h⟩:=h
 refine ⟨_,(qac (qaF (qam (qlG (K:=K) rfl) (pv 1) (pv 0) (by with_unfolding_all rfl)) (qae (qdr (by rfl) Z.gX Z.xX yhb rfl qcK qak)) qan)
   (qae (qal (qnR (K:=K) rfl ygu yfs yhc qkx (pv 0) (qaa (pv 1) qad))))),?_⟩
 refine rdg (σ':=[some x0,some x1]) rfl ?_
 obtain ⟨p,ws,w,rfl,f1,hl,rfl,q1,q2⟩:=h
 walk_at "rd"
 by_cases hw:w∈ws
 . refine ⟨_,.inl (SqL.of f1),rfl,qc3 _,false,by rw [qqc];simpa using hw,?_⟩
   rw [if_neg (by decide)]
   exact ⟨.inl ⟨rfl,_,SqL.of f1⟩,p,ws,w,rfl,rfl,f1,hw,by omega,q1 hw⟩
 . refine ⟨_,.inl (SqL.of f1),rfl,qc3 _,true,by rw [qqc];simpa using hw,?_⟩
   rw [if_pos rfl]
   exact q2 hw
abbrev qbP:Stmt:=top 27
def qiw:qai ["words", "one"] ["words", "one"] (qab qbP):=fsc
def qid {f:Addr} {fd:FuncData} (F:Fun K "show_set" "show_set" qbP f fd) (T:Txt mg):qaN P w K mg base CX0 1 f fd ["words", "one"] qbs:=F.ok qiw (fun vs H Q E h=>absurd h id) (fun cdv A outer s H vs Q E hr h=>absurd h id)
abbrev qbc:Stmt:=top 28
def qfq:qai ["words", "family"] ["words", "family"] (qab qbc):=fsc
def qfF {f:Addr} {fd:FuncData} (F:Fun K "show_family" "show_family" qbc f fd) (T:Txt mg):qaN P w K mg base CX0 1 f fd ["words", "family"] qbs:=F.ok qfq (fun vs H Q E h=>absurd h id) (fun cdv A outer s H vs Q E hr h=>absurd h id)
abbrev qbW:Stmt:=top 29
def qeW:qai ["words", "text", "parts", "names"] ["words", "text"] (qab qbW):=fsc
def qdl (K:W.Frag) (cX:Addr):Sp:=qpX fun x y H Q E=>∃(p:Addr) (ws:List Str) (z:Str),x = .ref p/\H p=some (.lst (sV ws))/\Tx.Wds ws/\y = .str z/\z.length<=10000/\(_root_.PySem.Txt.split z "+").length<=1000/\(∀a,Tx.rS ws z=some a->∀H',qav H H'->Q (.int (a:Nat)) H')/\(Tx.rS ws z=none->∀H',qav H H'->E (.ref cX) none H')
def qii {f:Addr} {fd:FuncData} (F:Fun K "read_set" "read_set" qbW f fd) (T:Txt mg) {cD aW cX cN cF cH cO cM:Addr} (Z:Xt P w K mg cD aW cX cN cF cH cO cM) {f_49:Addr} {fd_49:FuncData} (C_49:Cal P w K mg base "parted" 1 ["text", "sign"] qdg f_49 fd_49) {f_48:Addr} {fd_48:FuncData} (C_48:Cal P w K mg base "set_of" 1 ["names"] (qhS K) f_48 fd_48) {f_26:Addr} {fd_26:FuncData} (C_26:qmg P w K mg base "read_name" 1 ["words", "word"] (qcV K cX) f_26 fd_26):qaN P w K mg base (CX1 P w) 2 f fd ["words", "text"] (qdl K cX):=by
 have sc:=qeW
 refine F.okX qeW (fun vs H Q E h=>by obtain ⟨_,_,rfl,_⟩:=h;rfl) (fun cdv A outer s H vs Q E hr h=>?_)
 obtain ⟨x0,x1,rfl,h⟩:=h
 refine ⟨_,(qac (qay (i:=2) sc.nd rfl (Or.inl rfl) (pec C_49 hr (qaa (pv 1) (qaa qak qad))))
   (qac (qaF (qam (qaD (K:=K) rfl hr.units0) (pv 2) (qaS (qaa (qez T.c_NO_NAMES (by rfl)) qad)) (qaq _)) (qae (qal qaf)) qan)
   (qac (qgu (i:=3) sc.nd rfl rfl (by rfl) (N:=["word", "words"]) (nt:=1) (caps:=[0]) qaT rfl (qa3 (pv 2)) (fun _ _ _ _ _=>(qaw (i:=0) (show List.Nodup (α:=Str) ["word", "words"] from by decide +kernel) rfl (Or.inl rfl))) qa2 (fun _ _ _ _ _=>qbi) (fun _ _ _ _ _ _ _ tk=>(qe1 C_26 hr (by decide) (by rfl) tk.passes (qaa (pv 1) (qaa (pv 0) qad)))) qgP rfl rfl)
   (qac (qaF (qam (qfk (K:=K) rfl hr.units0) (pv 3) (qat (qdT (P:=P) (w:=w) (K:=K) rfl rfl rfl rfl) (by rfl) T.n_sorted PyProof.Rows.boot_sorted (qaa (qcw (qjI (P:=P) (w:=w) (K:=K) rfl rfl rfl rfl) (by rfl) T.n_set PyProof.Rows.boot_set (qaa (pv 3) qad)) qad)) (qaq _)) (qae (qdr (by rfl) Z.gX Z.xX yhb rfl qcK qak)) qan)
   (qae (qal (pec C_48 hr (qaa (pv 3) qad)))))))),?_⟩
 refine rdg (σ':=[some x0,some x1,none,none]) rfl ?_
 obtain ⟨p,ws,z,rfl,f1,hw,rfl,hz,hn,q1,q2⟩:=h
 walk_at "rd"
 refine ⟨_,_,rfl,_,_,rfl,rfl,by rw [Tx.lit_plus];rfl,hz,fun p1 G1 hp1 s1 a1=>?_⟩
 generalize eP:_root_.PySem.Txt.split z "+" = P at a1 hn
 (try walk_at "rd")
 refine ⟨qaE (by simp),fun p2 hp2=>?_⟩
 generalize g2:upd G1 p2 _=G2
 have a2:G2 p2=some (.lst (sV [("-" : Str)])):=qax g2
 have s2:=qau g2 hp2
 have a1:=s2 _ _ a1
 have s12:=s1.trans s2
 refine qnk (SqL.of a1) (SqL.of a2) (qc3 _) (qc3 _) ?_
 rw [qiy]
 by_cases h0:P=[("-" : Str)]
 . refine ⟨true,by simpa using h0,qjF ?_⟩
   exact q1 0 (by unfold Tx.rS;rw [eP,if_pos h0]) _ s12
 refine ⟨false,by simpa using h0,qgJ ?_⟩
 have lz:(sV P).length=P.length:=qbv _
 refine ⟨⟨_,SqL.of a1⟩,qkt (xs:=sV P) (fun i ys H3=>qav G2 H3/\ys=nV ((P.take i).map fun w=>ws.idxOf w)/\∀w∈P.take i,w∈ws) ⟨qav.refl _,rfl,fun w hw=>(by cases hw)⟩ (by rw [lz];exact qaE (by omega)) (fun i ys H3 hi ⟨s,e,_⟩=>⟨SqL.of (s _ _ a1),by rw [e,qb6,ybz,yem];omega⟩) (fun i x ys H3 hx ⟨s3,e3,m3⟩ R R' r1 r2=>?_) fun ys H3 ⟨s3,e3,m3⟩ p3 hp3=>?_⟩
 . rw [ydr] at hx
   cases eb:P[i]? with
   | none=>rw [eb] at hx;cases hx
   | some w =>
     rw [eb] at hx
     cases hx
     have mw:=ybv eb
     (try walk_at "rd")
     refine ⟨_,_,rfl,p,ws,w,rfl,s3 _ _ (s12 _ _ f1),hw.few,rfl,fun hm=>r1 _ _ ⟨s3,?_,?_⟩,fun hm=>q2 ?_ _ (s12.trans s3)⟩
     . rw [e3,yfv,eb]
       simp [nV,nI]
     . rw [yfv,eb]
       intro w' hw'
       rcases yat.mp hw' with x | x
       . exact m3 w' x
       . have e:w'=w:=by simpa using x
         rw [e]
         exact hm
     . unfold Tx.rS
       rw [eP,if_neg h0,if_neg fun y=>hm (y.1 w mw)]
 rw [lz,yco] at e3 m3
 subst e3
 generalize g3:upd H3 p3 _=G3
 have a3:=qax g3
 have s3':=(s12.trans s3).trans (qau g3 hp3)
 refine ⟨p3,_,rfl,SqL.of a3,by rw [nI,ybz,ybz];omega,fun p4 hp4=>?_⟩
 generalize g4:upd G3 p4 _=G4
 have a4:=qax g4
 have a3:=qau g4 hp4 _ _ a3
 have s4:=s3'.trans (qau g4 hp4)
 refine ⟨p4,_,rfl,.inr a4,qj3 hw.few m3 (by decide),fun p5 ms hp5 m1 m2=>?_⟩
 rw [qdo m1 m2]
 generalize g5:upd G4 p5 _=G5
 have a5:=qax g5
 have a3:=qau g5 hp5 _ _ a3
 have s5:=s4.trans (qau g5 hp5)
 refine qsq (SqL.of a3) (SqL.of a5) (qnJ _) (qnJ _) ?_
 rw [qqU]
 by_cases hr:(P.map fun w=>ws.idxOf w).Pairwise (· < ·)
 . rw [qn4 hr] at a5 ⊢
   refine ⟨false,by simp,qgJ ?_⟩
   refine ⟨_,rfl,p3,_,rfl,SqL.of a3,fun k hk=>?_,?_⟩
   . obtain ⟨w,hw',rfl⟩:=ybq.mp hk
     have:=ygd (m3 w hw')
     have:=hw.few
     omega
   exact q1 _ (by unfold Tx.rS;rw [eP,if_neg h0,if_pos ⟨m3,hr⟩]) _ s5
 . have ne:(P.map fun w=>ws.idxOf w)≠sd (P.map fun w=>ws.idxOf w):=fun e=>hr (by rw [e];exact qa6 _)
   refine ⟨true,by rw [decide_eq_false ne];rfl,qjF ?_⟩
   exact q2 (by unfold Tx.rS;rw [eP,if_neg h0,if_neg (fun z=>hr z.2)]) _ s5
abbrev qbd:Stmt:=top 30
def qc1:qai ["words", "text", "parts", "family"] ["words", "text"] (qab qbd):=fsc
def qgO {m:Nat}:∀(fs:List Nat) (b:Int),qjQ m b (nV fs)=true↔(∀x∈fs,b<(x:Int))/\fs.Pairwise (· < ·)/\∀x∈fs,x<2^m
 | [],b=>⟨fun _=>⟨fun x hx=>(by cases hx),List.Pairwise.nil,fun x hx=>(by cases hx)⟩,fun _=>rfl⟩
 | x::r,b=>by
   have ih:=qgO (m:=m) r (x:Int)
   show (decide (0<=(x:Int))&&decide ((x:Int)<(2^m:Nat))&&decide (b<(x:Int))&&qjQ m (x:Int) (nV r))=true↔_
   rw [yab,yab,yab,decide_eq_true_eq,decide_eq_true_eq,decide_eq_true_eq,ih]
   constructor
   . rintro ⟨⟨⟨_,h1⟩,h2⟩,h3,h4,h5⟩
     refine ⟨fun y hy=>?_,ybc.mpr ⟨fun y hy=>?_,h4⟩,fun y hy=>?_⟩
     . rcases ybd.mp hy with rfl | z
       . exact h2
       . have:=h3 y z
         omega
     . have:=h3 y hy
       omega
     . rcases ybd.mp hy with rfl | z
       . omega
       . exact h5 y z
   . rintro ⟨h1,h2,h3⟩
     have h4:=ybc.mp h2
     have h5:=h3 x ybb
     exact ⟨⟨⟨by omega,by omega⟩,h1 x ybb⟩,fun y hy=>by have:=h4.1 y hy;omega,h4.2,fun y hy=>h3 y (ybe _ hy)⟩
def qeO (K:W.Frag) (cX:Addr):Sp:=qpX fun x y H Q E=>∃(p:Addr) (ws:List Str) (z:Str),x = .ref p/\H p=some (.lst (sV ws))/\Tx.Wds ws/\y = .str z/\z.length<=10000/\(_root_.PySem.Txt.split z " ").length<=1000/\(∀q∈_root_.PySem.Txt.split z " ",(_root_.PySem.Txt.split q "+").length<=1000)/\(∀fs,Tx.rF ws z=some fs->∀p' H',H p'=none->qav H H'->H' p'=some (.lst (nV fs))->Q (.ref p') H')/\(Tx.rF ws z=none->∀H',qav H H'->E (.ref cX) none H')
def qfv {f:Addr} {fd:FuncData} (F:Fun K "read_family" "read_family" qbd f fd) (T:Txt mg) {cD aW cX cN cF cH cO cM:Addr} (Z:Xt P w K mg cD aW cX cN cF cH cO cM) {f_49:Addr} {fd_49:FuncData} (C_49:Cal P w K mg base "parted" 1 ["text", "sign"] qdg f_49 fd_49) {f_37:Addr} {fd_37:FuncData} (C_37:qmg P w K mg base "read_set" 2 ["words", "text"] (qdl K cX) f_37 fd_37) {f_25:Addr} {fd_25:FuncData} (C_25:Cal P w K mg base "is_family" 3 ["many", "thing"] (qit K) f_25 fd_25):qaN P w K mg base (CX1 P w) 4 f fd ["words", "text"] (qeO K cX):=by
 have sc:=qc1
 refine F.okX qc1 (fun vs H Q E h=>by obtain ⟨_,_,rfl,_⟩:=h;rfl) (fun cdv A outer s H vs Q E hr h=>?_)
 obtain ⟨x0,x1,rfl,h⟩:=h
 refine ⟨_,(qac (qay (i:=2) sc.nd rfl (Or.inl rfl) (pec C_49 hr (qaa (pv 1) (qaa qak qad))))
   (qac (qaF (qam (qaD (K:=K) rfl hr.units0) (pv 2) (qaS (qaa (qez T.c_NO_SETS (by rfl)) qad)) (qaq _)) (qae (qal (qaS qad))) qan)
   (qac (qgu (i:=3) sc.nd rfl rfl (by rfl) (N:=["part", "words"]) (nt:=1) (caps:=[0]) qaT rfl (qa3 (pv 2)) (fun _ _ _ _ _=>(qaw (i:=0) (show List.Nodup (α:=Str) ["part", "words"] from by decide +kernel) rfl (Or.inl rfl))) qa2 (fun _ _ _ _ _=>qbi) (fun _ _ _ _ _ _ _ tk=>(qe1 C_37 hr (by decide) (by rfl) tk.passes (qaa (pv 1) (qaa (pv 0) qad)))) qgP rfl rfl)
   (qac (qaF (qcr (qbw (pec C_25 hr (qaa (qat (qaL (K:=K) rfl) (by rfl) T.n_len PySem.boot_len (qaa (pv 0) qad)) (qaa (pv 3) qad))))) (qae (qdr (by rfl) Z.gX Z.xX yhb rfl qcK qak)) qan)
   (qae (qal (pv 3))))))),?_⟩
 refine rdg (σ':=[some x0,some x1,none,none]) rfl ?_
 obtain ⟨p,ws,z,rfl,f1,hw,rfl,hz,hn,hP,q1,q2⟩:=h
 walk_at "rd"
 have pl:=Tx.part_len z 32
 rw [<-Tx.lit_space] at pl
 refine ⟨_,_,rfl,_,_,rfl,rfl,by rw [Tx.lit_space];rfl,hz,fun p1 G1 hp1 s1 a1=>?_⟩
 generalize eP:_root_.PySem.Txt.split z " " = P at a1 hn hP pl
 (try walk_at "rd")
 refine ⟨qaE (by simp),fun p2 hp2=>?_⟩
 generalize g2:upd G1 p2 _=G2
 have a2:G2 p2=some (.lst (sV [("none" : Str)])):=qax g2
 have s2:=qau g2 hp2
 have a1:=s2 _ _ a1
 have s12:=s1.trans s2
 refine qnk (SqL.of a1) (SqL.of a2) (qc3 _) (qc3 _) ?_
 rw [qiy]
 by_cases h0:P=[("none" : Str)]
 . refine ⟨true,by simpa using h0,qjF ⟨qaE (by simp),fun p3 hp3=>?_⟩⟩
   exact q1 [] (by unfold Tx.rF;rw [eP,if_pos h0]) _ _ (qaM s12 hp3) (s12.trans (qav.new hp3)) qaj
 refine ⟨false,by simpa using h0,qgJ ?_⟩
 have lz:(sV P).length=P.length:=qbv _
 refine ⟨⟨_,SqL.of a1⟩,qkt (xs:=sV P) (fun i ys H3=>qav G2 H3/\ys=nV ((P.take i).map fun w=>(Tx.rS ws w).getD 0)/\∀w∈P.take i,(Tx.rS ws w).isSome=true) ⟨qav.refl _,rfl,fun w hw=>(by cases hw)⟩ (by rw [lz];exact qaE (by omega)) (fun i ys H3 hi ⟨s,e,_⟩=>⟨SqL.of (s _ _ a1),by rw [e,qb6,ybz,yem];omega⟩) (fun i x ys H3 hx ⟨s3,e3,m3⟩ R R' r1 r2=>?_) fun ys H3 ⟨s3,e3,m3⟩ p3 hp3=>?_⟩
 . rw [ydr] at hx
   cases eb:P[i]? with
   | none=>rw [eb] at hx;cases hx
   | some w =>
     rw [eb] at hx
     cases hx
     have mw:=ybv eb
     (try walk_at "rd")
     refine ⟨_,_,rfl,p,ws,w,rfl,s3 _ _ (s12 _ _ f1),hw,rfl,ycf (pl w mw) hz,hP w mw,fun a ha H4 s4=>r1 _ _ ⟨s3.trans s4,?_,?_⟩,fun hm H4 s4=>q2 ?_ _ ((s12.trans s3).trans s4)⟩
     . rw [e3,yfv,eb]
       simp [nV,nI,ha]
     . rw [yfv,eb]
       intro w' hw'
       rcases yat.mp hw' with x | x
       . exact m3 w' x
       . have e:w'=w:=by simpa using x
         rw [e,ha]
         rfl
     . unfold Tx.rF
       rw [eP,if_neg h0,if_neg fun y=>by have:=y.1 w mw;rw [hm] at this;cases this]
 rw [lz,yco] at e3 m3
 subst e3
 generalize g3:upd H3 p3 _=G3
 have a3:=qax g3
 have t3:=qau g3 hp3
 have s3':=(s12.trans s3).trans t3
 have f1':=s3' _ _ f1
 (try walk_at "rd")
 refine ⟨_,.inl (SqL.of f1'),?_⟩
 rw [qbv]
 have lb:∀x∈P.map (fun w=>(Tx.rS ws w).getD 0),x<2^ws.length:=fun x hx=>by
   obtain ⟨w,hw',rfl⟩:=ybq.mp hx
   have:=m3 w hw'
   cases e:Tx.rS ws w with
   | none=>rw [e] at this;cases this
   | some a=>exact Tx.rS_lt hw e
 refine ⟨_,_,rfl,ws.length,rfl,hw.few,.inl ⟨p3,_,rfl,a3,by rw [qb6,ybz];exact hn,fun x hx=>?_,?_⟩⟩
 . obtain ⟨i,hi,rfl⟩:=ybq.mp hx
   exact ⟨"int",rfl⟩
 rw [qb6]
 by_cases hr:(P.map fun w=>(Tx.rS ws w).getD 0).length<=70/\(P.map fun w=>(Tx.rS ws w).getD 0).Pairwise (· < ·)
 . have e:qjQ ws.length (-1) (nV (P.map fun w=>(Tx.rS ws w).getD 0))=true:=(qgO _ _).mpr ⟨fun x _=>by omega,hr.2,lb⟩
   refine ⟨true,by rw [e,decide_eq_true hr.1];rfl,?_⟩
   rw [if_neg (by decide)]
   exact q1 _ (by unfold Tx.rF;rw [eP,if_neg h0,if_pos ⟨m3,hr⟩]) p3 _ (qaM (s12.trans s3) hp3) s3' a3
 . have e:(decide ((P.map fun w=>(Tx.rS ws w).getD 0).length<=70)&&qjQ ws.length (-1) (nV (P.map fun w=>(Tx.rS ws w).getD 0)))=false:=by
     rw [ygc]
     intro y
     rw [yab,decide_eq_true_eq] at y
     exact hr ⟨y.1,((qgO _ _).mp y.2).2.1⟩
   refine ⟨false,by rw [e],?_⟩
   rw [if_pos rfl]
   exact q2 (by unfold Tx.rF;rw [eP,if_neg h0,if_neg (fun z=>hr z.2)]) _ s3'
abbrev qdX:Stmt:=top 13
def qi5:qai ["one", "other"] ["one", "other"] (qab qdX):=fsc
def qim:Sp:=sp2 fun x y H Q=>∃a b:Nat,x = .int a/\y = .int b/\Q (.bl (decide (Fam.sub b a))) H
def qnj {f:Addr} {fd:FuncData} (F:Fun K "holds" "holds" qdX f fd) (T:Txt mg)  : qaN P w K mg base CX0 1 f fd ["one", "other"] qim:=by
 have sc:=qi5
 refine F.ok qi5 (fun vs H Q E h=>by obtain ⟨_,_,rfl,_⟩:=h;rfl) (fun cdv A outer s H vs Q E hr h=>?_)
 obtain ⟨x0,x1,rfl,h⟩:=h
 refine ⟨_,(qae (qal (qe8 (qaD (K:=K) rfl hr.units0) (qar qf1 (pv 0) (pv 1)) (pv 1) (qaq _)))),?_⟩
 refine rdg (σ':=[some x0,some x1]) rfl ?_
 obtain ⟨a,b,rfl,rfl,q⟩:=h
 walk_at "rd"
 rw [qd4,show decide (((a&&&b:Nat):Int)=(b:Int))=decide (Fam.sub b a) from decide_eq_decide.mpr (by unfold Fam.sub;omega)]
 exact q
abbrev qdO:Stmt:=top 14
def qiW:qai ["one", "other"] ["one", "other"] (qab qdO):=fsc
def qhW:Sp:=sp2 fun x y H Q=>∃a b:Nat,x = .int a/\y = .int b/\Q (.bl (decide (Fam.mt a b))) H
def qnd {f:Addr} {fd:FuncData} (F:Fun K "meets" "meets" qdO f fd) (T:Txt mg)  : qaN P w K mg base CX0 1 f fd ["one", "other"] qhW:=by
 have sc:=qiW
 refine F.ok qiW (fun vs H Q E h=>by obtain ⟨_,_,rfl,_⟩:=h;rfl) (fun cdv A outer s H vs Q E hr h=>?_)
 obtain ⟨x0,x1,rfl,h⟩:=h
 refine ⟨_,(qae (qal (qe8 (qfk (K:=K) rfl hr.units0) (qar qf1 (pv 0) (pv 1)) qaf (qaq _)))),?_⟩
 refine rdg (σ':=[some x0,some x1]) rfl ?_
 obtain ⟨a,b,rfl,rfl,q⟩:=h
 walk_at "rd"
 rw [qd4,show (!decide (((a&&&b:Nat):Int)=0))=decide (Fam.mt a b) from by
   rw [<-decide_not]
   exact decide_eq_decide.mpr (by unfold Fam.mt;omega)]
 exact q
abbrev qfZ:Stmt:=top 15
def qkS:qai ["many", "one", "whole_ground"] ["many", "one"] (qab qfZ):=fsc
def qj4:Sp:=sp2 fun x y H Q=>∃m a:Nat,x = .int m/\y = .int a/\m<=8/\a<2^m/\Q (.int (Fam.rst m a:Nat)) H
def qpF {m a:Nat} (h:a<2^m):Builtin.bitAnd (1*2^(m:Int).toNat-1) (Builtin.bitNot a)=((Fam.rst m a:Nat):Int):=by
 rw [Int.one_mul,yer,qgK,bitAnd_not]
 have e:(((2^m:Nat):Int)-1)=((2^m-1:Nat):Int):=by have:=yah m;omega
 rw [e,qd4,Nat.and_comm,Nat.and_two_pow_sub_one_eq_mod,Nat.mod_eq_of_lt h]
 unfold Fam.rst
 omega
def qo2 {f:Addr} {fd:FuncData} (F:Fun K "rest" "rest" qfZ f fd) (T:Txt mg)  : qaN P w K mg base CX0 1 f fd ["many", "one"] qj4:=by
 have sc:=qkS
 refine F.ok qkS (fun vs H Q E h=>by obtain ⟨_,_,rfl,_⟩:=h;rfl) (fun cdv A outer s H vs Q E hr h=>?_)
 obtain ⟨x0,x1,rfl,h⟩:=h
 refine ⟨_,(qac (qay (i:=2) sc.nd rfl (Or.inl rfl) (qar qnp (qar qeg qaf (pv 0)) qaf))
   (qae (qal (qar qf1 (pv 2) (qoJ qnG (pv 1)))))),?_⟩
 refine rdg (σ':=[some x0,some x1,none]) rfl ?_
 obtain ⟨m,a,rfl,rfl,hm,ha,q⟩:=h
 walk_at "rd"
 refine ⟨qcD (by omega) (by omega) (by decide) (by decide),?_⟩
 rw [qpF ha]
 exact q
abbrev qfP:Stmt:=top 20
def qk4:qai ["family", "one", "other"] ["family", "one"] (qab qfP):=fsc
def qf0 (K:W.Frag):Sp:=sp2 fun x y H Q=>∃(p:Addr) (fs:List Nat) (a:Nat),x = .ref p/\SqL K H p (nV fs)/\y = .int a/\Q (.bl (Fam.sayP fs a)) H
def qo9 {α:Type} {fs:List α} {f:α->Bool} {i:Nat} {b:α} (h:fs[i]?=some b) (hb:f b=true):fs.any f=true:=ybj.mpr ⟨b,ybv h,hb⟩
def ql4 {α:Type} {fs:List α} {f:α->Bool} {i:Nat} {b:α} (h:fs[i]?=some b) (h0:(fs.take i).any f=false) (hb:f b=false):(fs.take (i+1)).any f=false:=by
 rw [yfv,h,ybw,h0]
 simpa using hb
def qn3 {f:Addr} {fd:FuncData} (F:Fun K "says" "says" qfP f fd) (T:Txt mg) {f_54:Addr} {fd_54:FuncData} (C_54:Cal P w K mg base "holds" 1 ["one", "other"] qim f_54 fd_54):qaN P w K mg base CX0 2 f fd ["family", "one"] (qf0 K):=by
 have sc:=qk4
 refine F.ok qk4 (fun vs H Q E h=>by obtain ⟨_,_,rfl,_⟩:=h;rfl) (fun cdv A outer s H vs Q E hr h=>?_)
 obtain ⟨x0,x1,rfl,h⟩:=h
 refine ⟨_,(qac (qcb PassesOwn.never rfl (qa3 (pv 0)) (qaw (i:=2) sc.nd rfl (Or.inl rfl)) (qae (qaF (qbw (pec C_54 hr (qaa (pv 1) (qaa (pv 2) qad)))) (qae (qal qfE)) qan)))
   (qae (qal qfE))),?_⟩
 refine rdg (σ':=[some x0,some x1,none]) rfl ?_
 obtain ⟨p,fs,a,rfl,hq,rfl,q⟩:=h
 walk_at "rd"
 refine ⟨⟨_,hq⟩,qiM (fun i σ H'=>∃v,σ=[some (.ref p),some (.int a),v]/\H'=H/\(fs.take i).any (fun b=>decide (Fam.sub b a))=false) ⟨none,rfl,rfl,rfl⟩ (fun i σ H' _ ⟨v,_,e,_⟩=>e▸hq) ?_ ?_⟩
 . rintro i b σ H' hb ⟨v,rfl,rfl,h0⟩ N hN
   (try walk_at "rd")
   refine ⟨_,_,rfl,a,b,rfl,rfl,_,rfl,qnA (fun hc=>?_) fun hc=>hN _ _ ⟨_,rfl,rfl,ql4 hb h0 hc⟩⟩
   rw [show Fam.sayP fs a=true from qo9 hb hc] at q
   exact q
 . rintro σ H' ⟨v,rfl,rfl,h0⟩
   rw [yco] at h0
   rw [show Fam.sayP fs a=false from h0] at q
   exact q
abbrev qd0:Stmt:=top 19
def qiA:qai ["some", "found", "one"] ["some"] (qab qd0):=fsc
def qdS (K:W.Frag):Sp:=sp1 fun x H Q=>∃(p:Addr) (fs:List Nat),x = .ref p/\SqL K H p (nV fs)/\fs.length<=10000/\(∀b∈fs,b<32)/\∀H' p',H p'=none->qav H H'->H' p'=some (.lst (nV (Fam.mins (sd fs))))->Q (.ref p') H'
def qqE (fs:List Nat) {ms:List Int} (m1:ms.Perm (qc7 (nI fs))) (m2:ms.Pairwise (·<=·)):(sd fs).length<=fs.length:=by
 have:=m1.length_eq
 rw [qdo m1 m2] at this
 have h2:=qhk (nI fs)
 simp at this h2
 omega
def qmT {f:Addr} {fd:FuncData} (F:Fun K "least" "least" qd0 f fd) (T:Txt mg) {f_61:Addr} {fd_61:FuncData} (C_61:Cal P w K mg base "says" 2 ["family", "one"] (qf0 K) f_61 fd_61):qaN P w K mg base CX0 3 f fd ["some"] (qdS K):=by
 have sc:=qiA
 refine F.ok qiA (fun vs H Q E h=>by obtain ⟨_,rfl,_⟩:=h;rfl) (fun cdv A outer s H vs Q E hr h=>?_)
 obtain ⟨x0,rfl,h⟩:=h
 refine ⟨_,(qac (qay (i:=1) sc.nd rfl (Or.inl rfl) (qaS qad))
   (qac (qcb PassesOwn.never rfl (qa3 (qat (qdT (P:=P) (w:=w) (K:=K) rfl rfl rfl rfl) (by rfl) T.n_sorted PyProof.Rows.boot_sorted (qaa (qcw (qhs (P:=P) (w:=w) (K:=K) rfl rfl rfl rfl) (by rfl) T.n_set PyProof.Rows.boot_set (qaa (pv 0) qad)) qad))) (qaw (i:=2) sc.nd rfl (Or.inl rfl)) (qae (qaF (qcr (qbw (pec C_61 hr (qaa (pv 1) (qaa (pv 2) qad))))) (qae (qdG (qdU ygu ygv ygw qeY (pv 1) (qaa (pv 2) qad)))) qan)))
   (qae (qal (pv 1))))),?_⟩
 refine rdg (σ':=[some x0,none,none]) rfl ?_
 obtain ⟨p,fs,rfl,hq,hl0,hl,q⟩:=h
 walk_at "rd"
 have hz:∀z∈nI fs,0<=z/\z<((32:Nat):Int):=fun y hy=>by
   obtain ⟨b,hb,rfl⟩:=ybq.mp hy
   have:=hl b hb
   omega
 have hlz:(nI fs).length<=1000\/∀z∈nI fs,0<=z/\z<1000 := .inr fun z h=>by
   have:=hz z h
   omega
 refine ⟨qaE (by simp),fun p0 hp0=>?_⟩
 generalize g0:upd H p0 _=G0
 have a0:=qax g0
 have t0:=qau g0 hp0
 refine ⟨p,_,rfl,t0.seq hq,hlz,fun p1 hp1=>?_⟩
 generalize g1:upd G0 p1 _=G1
 have a1:=qax g1
 have t1:=t0.trans (qau g1 hp1)
 have n01:=qhG hp1 a0
 have a0:=qau g1 hp1 _ _ a0
 refine ⟨p1,_,rfl,.inr a1,ycf (qhi (n:=32) hz) (by decide),fun p2 ms hp2 m1 m2=>?_⟩
 have lsd:=qqE fs m1 m2
 rw [qdo m1 m2]
 generalize g2:upd G1 p2 _=G2
 have a2:=qax g2
 have t2:=t1.trans (qau g2 hp2)
 have n02:=qhG hp2 a0
 have a0:=qau g2 hp2 _ _ a0
 refine ⟨p2,rfl,⟨_,SqL.of a2⟩,?_⟩
 refine qiM (fs:=sd fs) (fun i σ H3=>∃v,σ=[some (.ref p),some (.ref p0),v]/\H3=upd G2 p0 (.lst (nV (Fam.pick (fun _=>true) ((sd fs).take i))))) ⟨none,rfl,?_⟩ ?_ ?_ ?_
 . exact qiI a0
 . rintro i σ H3 hi ⟨v,rfl,rfl⟩
   exact SqL.of (by rw [qap (Ne.symm n02)];exact a2)
 . rintro i b σ H3 hbi ⟨v,rfl,rfl⟩ N hN
   have hlen:(Fam.pick (fun _=>true) ((sd fs).take i)).length<=10000:=ycf (Fam.pick_len _ _) (by rw [yem];omega)
   have es:(sd fs).take (i+1)=(sd fs).take i++[b]:=by rw [yfv,hbi];rfl
   have fin:∀L,Fam.pick (fun _=>true) ((sd fs).take (i+1))=L->N [some (.ref p),some (.ref p0),some (.int b)] (upd G2 p0 (.lst (nV L))):=fun L e=>hN _ _ ⟨_,rfl,by rw [e]⟩
   rw [es,Fam.pick_snoc] at fin
   generalize Fam.pick (fun _=>true) ((sd fs).take i)=L at fin hlen ⊢
   (try walk_at "rd")
   refine ⟨_,_,rfl,p0,L,b,rfl,SqL.of qaj,rfl,?_⟩
   (try walk_at "rd")
   cases hs:Fam.sayP L b with
   | true =>
     rw [if_neg (by decide)]
     exact fin L (by rw [if_neg];rw [show (L.any fun c=>decide (Fam.sub c b))=true from hs];decide)
   | false =>
     rw [if_pos rfl]
     refine ⟨qgg (by rw [qb6];omega),?_⟩
     rw [qlF]
     exact fin (L++[b]) (by rw [if_pos];rw [show (L.any fun c=>decide (Fam.sub c b))=false from hs];decide)
 . rintro σ H3 ⟨v,rfl,rfl⟩
   rw [yco]
   (try walk_at "rd")
   exact q _ p0 hp0 (t2.upd hp0) qaj
abbrev qdL:Stmt:=top 21
def qiB:qai ["many", "family"] ["many", "family"] (qab qdL):=fsc
def qiE {m:Nat} {fs:List Nat} (hr:fs.Pairwise (· < ·)) (hb:∀b∈fs,b<2^m):(Fam.rsts m fs).Pairwise (· < ·):=by
 unfold Fam.rsts
 rw [ybr,ybs]
 refine List.Pairwise.imp_of_mem (fun {a b} ha hb2 h=>?_) hr
 have:=hb a ha
 have:=hb b hb2
 unfold Fam.rst
 omega
def qsG {m:Nat} {fs:List Nat}:∀b∈Fam.rsts m fs,b<2^m:=fun b hb=>by
 unfold Fam.rsts at hb
 obtain ⟨a,_,rfl⟩:=ybq.mp (ybp.mp hb)
 exact Fam.rst_lt m a
def rsL_Fam.rsts {m:Nat} {fs:List Nat} (hb:∀b∈fs,b<2^m):Fam.rsts m (Fam.rsts m fs)=fs:=by
 unfold Fam.rsts
 rw [ygh,yap,yds]
 conv=>rhs;rw [<-yfk fs]
 exact yfl fun b h=>Fam.rst_rst (hb b h)
def qqj {m:Nat} {fs:List Nat} (hr:fs.Pairwise (· < ·)) (hb:∀b∈fs,b<2^m):sd (fs.map (Fam.rst m))=Fam.rsts m fs:=(qn5 (qiE hr hb) fun x=>by unfold Fam.rsts;rw [ybp]).symm
def qhT (K:W.Frag):Sp:=sp2 fun x y H Q=>∃(m:Nat) (p:Addr) (fs:List Nat),x = .int m/\m<=8/\y = .ref p/\SqL K H p (nV fs)/\fs.Pairwise (· < ·)/\(∀b∈fs,b<2^m)/\fs.length<=63 /\
 ∀H' p',H p'=none->qav H H'->H' p'=some (.lst (nV (Fam.rsts m fs)))->Q (.ref p') H'
def qmy {f:Addr} {fd:FuncData} (F:Fun K "rests" "rests" qdL f fd) (T:Txt mg) {f_60:Addr} {fd_60:FuncData} (C_60:Cal P w K mg base "rest" 1 ["many", "one"] qj4 f_60 fd_60):qaN P w K mg base CX0 2 f fd ["many", "family"] (qhT K):=by
 have sc:=qiB
 refine F.ok qiB (fun vs H Q E h=>by obtain ⟨_,_,rfl,_⟩:=h;rfl) (fun cdv A outer s H vs Q E hr h=>?_)
 obtain ⟨x0,x1,rfl,h⟩:=h
 refine ⟨_,(qae (qal (qat (qdT (P:=P) (w:=w) (K:=K) rfl rfl rfl rfl) (by rfl) T.n_sorted PyProof.Rows.boot_sorted (qaa (qbj (N:=["one", "many"]) (nt:=1) (caps:=[0]) qaT rfl (qa3 (pv 1)) (fun _ _ _ _ _=>(qaw (i:=0) (show List.Nodup (α:=Str) ["one", "many"] from by decide +kernel) rfl (Or.inl rfl))) qa2 (fun _ _ _ _ _=>qbi) (fun _ _ _ _ _=>(pec C_60 hr (qaa (pv 1) (qaa (pv 0) qad))))) qad)))),?_⟩
 refine rdg (σ':=[some x0,some x1]) rfl ?_
 obtain ⟨m,p,fs,rfl,hm,rfl,hq,hr,hb,hl,q⟩:=h
 walk_at "rd"
 refine ⟨⟨_,hq⟩,qg9 (fun _=>true) (fun b => .int (Fam.rst m b:Nat)) hq (by omega) (fun b hbm H1 s1 R R' r1 r2=>?_) fun H1 p1 s1 hp1=>?_⟩
 . (try walk_at "rd")
   exact ⟨_,_,rfl,m,b,rfl,rfl,hm,hb b hbm,r1 rfl _ (qav.refl _)⟩
 have e:(fs.filter fun _=>true).map (fun b=>V.int (Fam.rst m b:Nat))=nV (fs.map (Fam.rst m)):=by
   rw [yfp.mpr fun _ _=>rfl]
   simp
 rw [e]
 generalize e1:upd H1 p1 _=H2
 have f1:=qax e1
 have s2:=s1.trans (qau e1 hp1)
 refine ⟨p1,_,rfl,.inl (SqL.of f1),by simp;omega,fun l ms hl2 m1 m2=>?_⟩
 have nd:(fs.map (Fam.rst m)).Nodup:=by
   have:=(qiE hr hb).imp (fun {a b} (h:a<b)=>ydh h)
   unfold Fam.rsts at this
   exact (ybr.mp this).imp fun h=>Ne.symm h
 rw [qll nd m1 m2,qqj hr hb]
 exact q _ _ (qaM s2 hl2) (s2.trans (qav.new hl2)) qaj
abbrev qa0:Stmt:=top 44
def qcF:qai ["family", "one", "other"] ["family", "one"] (qab qa0):=fsc
def oV (o:Option Nat):V:=match o with | some b => .int (b:Nat) | none => .non
def qih (K:W.Frag):Sp:=sp2 fun x y H Q=>∃(p:Addr) (fs:List Nat) (a:Nat),x = .ref p/\SqL K H p (nV fs)/\y = .int a/\Q (oV (fs.find? fun b=>!decide (Fam.mt a b))) H
def qj5 {fs:List Nat} {f:Nat->Bool} {i b:Nat} (h:fs[i]?=some b) (h0:(fs.take i).find? f=none) (hb:f b=false):(fs.take (i+1)).find? f=none:=by
 rw [yfv,h,List.find?_append,h0]
 simp [hb]
def qkG {fs:List Nat} {f:Nat->Bool} {i b:Nat} (h:fs[i]?=some b) (h0:(fs.take i).find? f=none) (hb:f b=true):fs.find? f=some b:=by
 have e:fs=fs.take i++b::fs.drop (i+1):=by
   have hi:=(ycd.mp h).1
   have:=ycr i fs
   rw [ygy hi] at this
   rw [(ycd.mp h).2] at this
   exact this.symm
 rw [e,List.find?_append,h0]
 simp [hb]
def qe4 {f:Addr} {fd:FuncData} (F:Fun K "first_missed" "first_missed" qa0 f fd) (T:Txt mg) {f_55:Addr} {fd_55:FuncData} (C_55:Cal P w K mg base "meets" 1 ["one", "other"] qhW f_55 fd_55):qaN P w K mg base CX0 2 f fd ["family", "one"] (qih K):=by
 have sc:=qcF
 refine F.ok qcF (fun vs H Q E h=>by obtain ⟨_,_,rfl,_⟩:=h;rfl) (fun cdv A outer s H vs Q E hr h=>?_)
 obtain ⟨x0,x1,rfl,h⟩:=h
 refine ⟨_,(qac (qcb PassesOwn.never rfl (qa3 (pv 0)) (qaw (i:=2) sc.nd rfl (Or.inl rfl)) (qae (qaF (qcr (qbw (pec C_55 hr (qaa (pv 1) (qaa (pv 2) qad))))) (qae (qal (pv 2))) qan)))
   (qae (qal qi1))),?_⟩
 refine rdg (σ':=[some x0,some x1,none]) rfl ?_
 obtain ⟨p,fs,a,rfl,hq,rfl,q⟩:=h
 walk_at "rd"
 refine ⟨⟨_,hq⟩,qiM (fun i σ H'=>∃v,σ=[some (.ref p),some (.int a),v]/\H'=H/\(fs.take i).find? (fun b=>!decide (Fam.mt a b))=none) ⟨none,rfl,rfl,rfl⟩ (fun i σ H' _ ⟨v,_,e,_⟩=>e▸hq) ?_ ?_⟩
 . rintro i b σ H' hb ⟨v,rfl,rfl,h0⟩ N hN
   (try walk_at "rd")
   refine ⟨_,_,rfl,a,b,rfl,rfl,_,rfl,?_⟩
   cases hc:decide (Fam.mt a b) with
   | true =>
     rw [if_neg (by decide)]
     exact hN _ _ ⟨_,rfl,rfl,qj5 hb h0 (by rw [hc];rfl)⟩
   | false =>
     rw [if_pos rfl]
     rw [qkG hb h0 (by rw [hc];rfl)] at q
     exact q
 . rintro σ H' ⟨v,rfl,rfl,h0⟩
   rw [yco] at h0
   rw [h0] at q
   exact q
abbrev qfS:Stmt:=top 42
def qjZ:qai ["many", "family", "found", "one"] ["many", "family"] (qab qfS):=fsc
def qlW (fs:List Nat) (a:Nat):(fs.find? fun b=>!decide (Fam.mt a b))=none↔Fam.hitP fs a=true:=by
 rw [List.find?_eq_none,Fam.hitP_iff]
 simp
def qkJ (K:W.Frag):Sp:=sp2 fun x y H Q=>∃(m:Nat) (p:Addr) (fs:List Nat),x = .int m/\m<=8/\y = .ref p/\H p=some (.lst (nV fs))/\∀H' p',H p'=none->qav H H'->H' p'=some (.lst (nV (Fam.hits m fs)))->Q (.ref p') H'
def qow {f:Addr} {fd:FuncData} (F:Fun K "hits" "hits" qfS f fd) (T:Txt mg) {f_61:Addr} {fd_61:FuncData} (C_61:Cal P w K mg base "says" 2 ["family", "one"] (qf0 K) f_61 fd_61) {f_10:Addr} {fd_10:FuncData} (C_10:Cal P w K mg base "first_missed" 2 ["family", "one"] (qih K) f_10 fd_10):qaN P w K mg base CX0 3 f fd ["many", "family"] (qkJ K):=by
 have sc:=qjZ
 refine F.ok qjZ (fun vs H Q E h=>by obtain ⟨_,_,rfl,_⟩:=h;rfl) (fun cdv A outer s H vs Q E hr h=>?_)
 obtain ⟨x0,x1,rfl,h⟩:=h
 refine ⟨_,(qac (qay (i:=2) sc.nd rfl (Or.inl rfl) (qaS qad))
   (qac (qcb PassesOwn.never rfl (qaW (by rfl) T.n_range (qaa (qar qeg qaf (pv 0)) qad)) (qaw (i:=3) sc.nd rfl (Or.inl rfl)) (qae (qaF (PW.pt (qfR (qcr (qbw (pec C_61 hr (qaa (pv 2) (qaa (pv 3) qad))))) (qdV (qam qnE (pec C_10 hr (qaa (pv 1) (qaa (pv 3) qad))) qi1 (qaq _))))) (qae (qdG (qdU ygu ygv ygw qeY (pv 2) (qaa (pv 3) qad)))) qan)))
   (qae (qal (pv 2))))),?_⟩
 refine rdg (σ':=[some x0,some x1,none,none]) rfl ?_
 obtain ⟨m,p,fs,rfl,hm,rfl,f1,q⟩:=h
 walk_at "rd"
 rw [qdc]
 have pp:=yah m
 have p8:2^m<=256:=yaf (n:=2) (by decide) hm
 refine ⟨qaE (by simp),fun p0 hp0=>⟨qcD (by omega) (by omega) (by decide) (by decide),by omega,by omega,?_⟩⟩
 rw [yer]
 generalize g0:upd H p0 _=G0
 have a0:=qax g0
 have t0:=qau g0 hp0
 have n0:=qhG hp0 f1
 refine qiD (fun i σ H3=>∃v,σ=[some (.int m),some (.ref p),some (.ref p0),v]/\H3=upd G0 p0 (.lst (nV (Fam.pick (Fam.hitP fs) (List.range i))))) ⟨_,rfl,qiI a0⟩ ?_ ?_
 . rintro i σ H3 hi ⟨v,rfl,rfl⟩ N hN
   have hlen:(Fam.pick (Fam.hitP fs) (List.range i)).length<=1000:=ycf (Fam.pick_len _ _) (by simp;omega)
   have fin:∀L,Fam.pick (Fam.hitP fs) (List.range (i+1))=L->N [some (.int m),some (.ref p),some (.ref p0),some (.int (i:Nat))] (upd G0 p0 (.lst (nV L))):=fun L e=>hN _ _ ⟨_,rfl,by rw [e]⟩
   rw [ydb,Fam.pick_snoc] at fin
   generalize Fam.pick (Fam.hitP fs) (List.range i)=L at fin hlen ⊢
   have fp:upd G0 p0 (.lst (nV L)) p=some (.lst (nV fs)):=by rw [qap n0];exact t0 _ _ f1
   (try walk_at "rd")
   refine ⟨_,_,rfl,p0,L,i,rfl,SqL.of qaj,rfl,?_⟩
   (try walk_at "rd")
   cases hs:Fam.sayP L i with
   | true =>
     rw [if_neg (by decide)]
     exact fin L (by rw [if_neg];rw [show (L.any fun c=>decide (Fam.sub c i))=true from hs];simp)
   | false =>
     rw [if_pos rfl]
     refine ⟨_,_,rfl,p,fs,i,rfl,SqL.of fp,rfl,?_⟩
     have hs':(L.any fun c=>decide (Fam.sub c i))=false:=hs
     have hf:=qlW fs i
     cases ho:(fs.find? fun b=>!decide (Fam.mt i b)) with
     | none =>
       have hh:=hf.mp ho
       refine ⟨rfl,?_⟩
       rw [if_pos (show oV none=V.non from rfl)]
       refine ⟨qdw qaj,qi6.mpr ⟨qgg (by (try rw [qb6]);omega),?_⟩⟩
       rw [qlF]
       exact fin (L++[i]) (by rw [if_pos];rw [hs',hh];rfl)
     | some b =>
       have hh:Fam.hitP fs i=false:=by
         cases hq:Fam.hitP fs i with
         | false=>rfl
         | true=>rw [hf.mpr hq] at ho;cases ho
       refine ⟨rfl,?_⟩
       rw [if_neg (by intro z;cases z)]
       exact fin L (by rw [if_neg];rw [hs',hh];decide)
 . rintro σ H3 ⟨v,rfl,rfl⟩
   (try walk_at "rd")
   exact q _ p0 hp0 (t0.upd hp0) qaj
abbrev qbB:Stmt:=top 61
def qef:qai ["family", "k"] ["family", "k"] (qab qbB):=fsc
def inn (fs:List Nat) (k:Nat):List Nat:=Fam.mins (sd (fs.map fun b=>Fam.clr b k))
def qr4 (K:W.Frag):Sp:=sp2 fun x y H Q=>∃(p:Addr) (fs:List Nat) (k:Nat),x = .ref p/\SqL K H p (nV fs)/\y = .int k/\k<=8/\fs.length<=1000/\(∀b∈fs,b<32)/\∀H' p',H p'=none->qav H H'->H' p'=some (.lst (nV (inn fs k)))->Q (.ref p') H'
def qqJ (b k:Nat):Builtin.bitAnd (b:Int) (Builtin.bitNot ((2^k:Nat):Int))=((Fam.clr b k:Nat):Int):=by
 rw [bitAnd_not,qd4,Fam.and_pow]
 unfold Fam.clr Fam.less
 by_cases h:b.testBit k=true
 . rw [if_pos h,if_pos h]
   have:=Fam.xor_bit h
   omega
 . rw [if_neg h,if_neg h]
   simp
def ql0 (fs:List Nat) (k:Nat):(inn fs k).Pairwise (· < ·):=Fam.mins_rise (qa6 _)
def qsp {fs:List Nat} {n:Nat} (k:Nat) (h:fs.length<=n):(inn fs k).length<=n:=ycf (Fam.pick_len _ _) (qpl _ (by rw [ybz];exact h))
def qsk (fs:List Nat) (k a:Nat):Fam.sayP (inn fs k) a=Fam.sayP fs (a|||2^k):=by
 unfold inn
 rw [Fam.say_mins (qa6 _),<-Fam.say_clr]
 exact Fam.say_congr (fun x=>qcJ) a
def qrn {fs:List Nat} {m k:Nat} (h:∀b∈fs,b<2^m):∀b∈inn fs k,b<2^m:=fun b hb=>by
 obtain ⟨c,hc,rfl⟩:=ybq.mp (qcJ.mp (Fam.mins_sub (qa6 _) b hb))
 exact ybi (Fam.clr_le c k) (h c hc)
def qhf {f:Addr} {fd:FuncData} (F:Fun K "always_in" "always_in" qbB f fd) (T:Txt mg) {f_56:Addr} {fd_56:FuncData} (C_56:Cal P w K mg base "least" 3 ["some"] (qdS K) f_56 fd_56):qaN P w K mg base CX0 4 f fd ["family", "k"] (qr4 K):=by
 have sc:=qef
 refine F.ok qef (fun vs H Q E h=>by obtain ⟨_,_,rfl,_⟩:=h;rfl) (fun cdv A outer s H vs Q E hr h=>?_)
 obtain ⟨x0,x1,rfl,h⟩:=h
 refine ⟨_,(qae (qal (pec C_56 hr (qaa (qbj (N:=["one", "k"]) (nt:=1) (caps:=[1]) qaT rfl (qa3 (pv 0)) (fun _ _ _ _ _=>(qaw (i:=0) (show List.Nodup (α:=Str) ["one", "k"] from by decide +kernel) rfl (Or.inl rfl))) qa2 (fun _ _ _ _ _=>qbi) (fun _ _ _ _ _=>(qar qf1 (pv 0) (qoJ qnG (qar qeg qaf (pv 1)))))) qad)))),?_⟩
 refine rdg (σ':=[some x0,some x1]) rfl ?_
 obtain ⟨p,fs,k,rfl,hq,rfl,hk,hl,h32,q⟩:=h
 walk_at "rd"
 refine ⟨⟨_,hq⟩,qg9 (fun _=>true) (fun b => .int (Fam.clr b k:Nat)) hq (by omega) (fun b hbm H1 s1 R R' r1 r2=>?_) fun H1 p1 s1 hp1=>?_⟩
 . (try walk_at "rd")
   rw [qdc,qqJ]
   exact ⟨qcD (by omega) (by omega) (by decide) (by decide),r1 rfl _ (qav.refl _)⟩
 have e:(fs.filter fun _=>true).map (fun b=>V.int (Fam.clr b k:Nat))=nV (fs.map fun b=>Fam.clr b k):=by
   rw [yfp.mpr fun _ _=>rfl]
   simp
 rw [e]
 generalize g1:upd H1 p1 _=G1
 have a1:=qax g1
 have t1:=s1.trans (qau g1 hp1)
 refine ⟨_,rfl,p1,_,rfl,SqL.of a1,by rw [ybz];omega,fun b hb=>(by obtain ⟨c,hc,rfl⟩:=ybq.mp hb;exact ybi (Fam.clr_le c k) (h32 c hc)),fun G2 p2 hp2 t2 a2=>?_⟩
 exact q _ p2 (qaM t1 hp2) (t1.trans t2) a2
abbrev qbo:Stmt:=top 62
def qdu:qai ["family", "k"] ["family", "k"] (qab qbo):=fsc
def qoI (K:W.Frag):Sp:=sp2 fun x y H Q=>∃(p:Addr) (fs:List Nat) (k:Nat),x = .ref p/\SqL K H p (nV fs)/\y = .int k/\k<=8/\fs.length<=1000/\(∀b∈fs,b<32)/\∀H' p',H p'=none->qav H H'->H' p'=some (.lst (nV (Fam.outs (Fam.mins (sd fs)) k)))->Q (.ref p') H'
def qg7 {fs:List Nat} (k:Nat) (h:fs.Pairwise (· < ·)):(Fam.outs fs k).Pairwise (· < ·):=h.sublist yba
def qlU (fs:List Nat) (k:Nat):(Fam.outs fs k).length<=fs.length:=yfn _ _
def qr8 (fs:List Nat) (k a:Nat):Fam.sayP (Fam.outs (Fam.mins (sd fs)) k) a=Fam.sayP fs (Fam.clr a k):=by
 rw [Fam.say_outs,Fam.say_mins (qa6 _)]
 exact Fam.say_congr (fun x=>qcJ) _
def qqZ {fs:List Nat} {m k:Nat} (h:∀b∈fs,b<2^m):∀b∈Fam.outs (Fam.mins (sd fs)) k,b<2^m:=fun b hb=>h b (qcJ.mp (Fam.mins_sub (qa6 _) b (yay.mp hb).1))
def qsw {fs:List Nat} {n k:Nat} (h:fs.length<=n):(Fam.outs (Fam.mins (sd fs)) k).length<=n:=ycf (qlU _ _) (ycf (Fam.pick_len _ _) (qpl fs h))
def qgE {f:Addr} {fd:FuncData} (F:Fun K "always_out" "always_out" qbo f fd) (T:Txt mg) {f_56:Addr} {fd_56:FuncData} (C_56:Cal P w K mg base "least" 3 ["some"] (qdS K) f_56 fd_56):qaN P w K mg base CX0 4 f fd ["family", "k"] (qoI K):=by
 have sc:=qdu
 refine F.ok qdu (fun vs H Q E h=>by obtain ⟨_,_,rfl,_⟩:=h;rfl) (fun cdv A outer s H vs Q E hr h=>?_)
 obtain ⟨x0,x1,rfl,h⟩:=h
 refine ⟨_,(qae (qal (qbj (N:=["one", "k"]) (nt:=1) (caps:=[1]) qaT rfl (qa3 (pec C_56 hr (qaa (pv 0) qad))) (fun _ _ _ _ _=>(qaw (i:=0) (show List.Nodup (α:=Str) ["one", "k"] from by decide +kernel) rfl (Or.inl rfl))) qa2 (fun _ _ _ _ _=>(qgy (qam (qaD (K:=K) rfl hr.units0) (qar qf1 (qar qnr (pv 0) (pv 1)) qaf) qaf (qaq _)))) (fun _ _ _ _ _=>(pv 0))))),?_⟩
 refine rdg (σ':=[some x0,some x1]) rfl ?_
 obtain ⟨p,fs,k,rfl,hq,rfl,hk,hl,h32,q⟩:=h
 walk_at "rd"
 refine ⟨_,rfl,p,fs,rfl,hq,by omega,h32,fun G1 p1 hp1 t1 a1=>?_⟩
 have l1:(Fam.mins (sd fs)).length<=1000:=ycf (Fam.pick_len _ _) (qpl fs hl)
 refine ⟨p1,rfl,⟨_,SqL.of a1⟩,qg9 (fun b=>!b.testBit k) (fun b => .int (b:Nat)) (SqL.of a1) (by omega) (fun b hbm H1 s1 R R' r1 r2=>?_) fun H1 p2 s1 hp2=>?_⟩
 . (try walk_at "rd")
   exact ⟨by omega,qkI qmd (fun hc=>r1 hc _ (qav.refl _)) fun hc=>r2 hc _ (qav.refl _)⟩
 rw [qp3]
 have t2:=t1.trans s1
 exact q _ p2 (qaM t2 hp2) (t2.trans (qav.new hp2)) qaj
abbrev qcW:Stmt:=top 63
def qhy:qai ["one", "other"] ["one", "other"] (qab qcW):=fsc
def qox (fs gs:List Nat):List Nat:=Fam.mins (sd (fs++gs))
def qgD (K:W.Frag):Sp:=sp2 fun x y H Q=>∃(p1 p2:Addr) (fs gs:List Nat),x = .ref p1/\SqL K H p1 (nV fs)/\y = .ref p2/\SqL K H p2 (nV gs)/\fs.length+gs.length<=1000/\(∀b∈fs,b<32)/\(∀b∈gs,b<32)/\∀H' p',H p'=none->qav H H'->H' p'=some (.lst (nV (qox fs gs)))->Q (.ref p') H'
def qlp (fs gs:List Nat):(qox fs gs).Pairwise (· < ·):=Fam.mins_rise (qa6 _)
def qpZ (fs gs:List Nat):Fam.Anti (qox fs gs):=Fam.mins_alone (qa6 _)
def qrH (fs gs:List Nat) (a:Nat):Fam.sayP (qox fs gs) a=(Fam.sayP fs a||Fam.sayP gs a):=by
 unfold qox
 rw [Fam.say_mins (qa6 _),<-Fam.say_append]
 exact Fam.say_congr (fun x=>qcJ) a
def qoi {m:Nat} {fs gs:List Nat} (h1:∀b∈fs,b<2^m) (h2:∀b∈gs,b<2^m):∀b∈qox fs gs,b<2^m:=fun b hb=>by
 rcases yat.mp (qcJ.mp (Fam.mins_sub (qa6 _) b hb)) with z | z
 . exact h1 b z
 . exact h2 b z
def qs0 {m:Nat} {L:List Nat} (hm:m<=8) (hr:L.Pairwise (· < ·)) (hb:∀b∈L,b<2^m) (ha:Fam.Anti L):L.length<=70:=Fam.sperner hr (fun b h=>yae (hb b h) (yaf (n:=2) (by decide) hm)) ha
def qkB {f:Addr} {fd:FuncData} (F:Fun K "either" "either" qcW f fd) (T:Txt mg) {f_56:Addr} {fd_56:FuncData} (C_56:Cal P w K mg base "least" 3 ["some"] (qdS K) f_56 fd_56):qaN P w K mg base CX0 4 f fd ["one", "other"] (qgD K):=by
 have sc:=qhy
 refine F.ok qhy (fun vs H Q E h=>by obtain ⟨_,_,rfl,_⟩:=h;rfl) (fun cdv A outer s H vs Q E hr h=>?_)
 obtain ⟨x0,x1,rfl,h⟩:=h
 refine ⟨_,(qae (qal (pec C_56 hr (qaa (qar (qgh (K:=K) rfl) (pv 0) (pv 1)) qad)))),?_⟩
 refine rdg (σ':=[some x0,some x1]) rfl ?_
 obtain ⟨p1,p2,fs,gs,rfl,h1,rfl,h2,hl,b1,b2,q⟩:=h
 walk_at "rd"
 refine ⟨p1,p2,_,_,rfl,rfl,h1,h2,qaE (by rw [qb6,qb6];omega),fun p3 hp3=>?_⟩
 rw [qg2]
 generalize g3:upd H p3 _=G3
 have a3:=qax g3
 have t3:=qau g3 hp3
 refine ⟨_,rfl,p3,_,rfl,SqL.of a3,by rw [yby];omega,fun b hb=>(yat.mp hb).elim (b1 b) (b2 b),fun G4 p4 hp4 t4 a4=>?_⟩
 exact q _ p4 (qaM t3 hp4) (t3.trans t4) a4
abbrev qfN:Stmt:=top 64
def qkX:qai ["one", "other", "joined", "a"] ["one", "other"] (qab qfN):=fsc
def bo (fs gs:List Nat):List Nat:=Fam.mins (sd (Fam.pairs fs gs))
def qjL (K:W.Frag):Sp:=sp2 fun x y H Q=>∃(p1 p2:Addr) (fs gs:List Nat),x = .ref p1/\H p1=some (.lst (nV fs))/\y = .ref p2/\H p2=some (.lst (nV gs))/\fs.length<=70/\gs.length<=70/\(∀b∈fs,b<2^5)/\(∀b∈gs,b<2^5)/\∀H' p',H p'=none->qav H H'->H' p'=some (.lst (nV (bo fs gs)))->Q (.ref p') H'
def qn6 (fs gs:List Nat):(bo fs gs).Pairwise (· < ·):=Fam.mins_rise (qa6 _)
def qrN (fs gs:List Nat):Fam.Anti (bo fs gs):=Fam.mins_alone (qa6 _)
def qsF (fs gs:List Nat) (a:Nat):Fam.sayP (bo fs gs) a=(Fam.sayP fs a&&Fam.sayP gs a):=by
 unfold bo
 rw [Fam.say_mins (qa6 _),<-Fam.say_pairs]
 exact Fam.say_congr (fun x=>qcJ) a
def qsh {m:Nat} {fs gs:List Nat} (h1:∀b∈fs,b<2^m) (h2:∀b∈gs,b<2^m):∀b∈bo fs gs,b<2^m:=fun b hb=>Fam.pairs_lt h1 h2 b (qcJ.mp (Fam.mins_sub (qa6 _) b hb))
def qoq {f:Addr} {fd:FuncData} (F:Fun K "both" "both" qfN f fd) (T:Txt mg) {f_56:Addr} {fd_56:FuncData} (C_56:Cal P w K mg base "least" 3 ["some"] (qdS K) f_56 fd_56):qaN P w K mg base CX0 4 f fd ["one", "other"] (qjL K):=by
 have sc:=qkX
 refine F.ok qkX (fun vs H Q E h=>by obtain ⟨_,_,rfl,_⟩:=h;rfl) (fun cdv A outer s H vs Q E hr h=>?_)
 obtain ⟨x0,x1,rfl,h⟩:=h
 refine ⟨_,(qac (qay (i:=2) sc.nd rfl (Or.inl rfl) (qaS qad))
   (qac (qcb PassesOwn.never rfl (qa3 (pv 0)) (qaw (i:=3) sc.nd rfl (Or.inr rfl)) (qae (qdG (qdU ygu PySem.F.slot_list_extend PySem.F.type_list_extend qk0 (pv 2) (qaa (qbj (N:=["b", "a"]) (nt:=1) (caps:=[3]) qaT rfl (qa3 (pv 1)) (fun _ _ _ _ _=>(qaw (i:=0) (show List.Nodup (α:=Str) ["b", "a"] from by decide +kernel) rfl (Or.inl rfl))) qa2 (fun _ _ _ _ _=>qbi) (fun _ _ _ _ _=>(qar qpg (pv 1) (pv 0)))) qad)))))
   (qae (qal (pec C_56 hr (qaa (pv 2) qad)))))),?_⟩
 refine rdg (σ':=[some x0,some x1,none,none]) rfl ?_
 obtain ⟨p1,p2,fs,gs,rfl,f1,rfl,f2,l1,l2,b1,b2,q⟩:=h
 walk_at "rd"
 refine ⟨qaE (by simp),fun p0 hp0=>?_⟩
 have n1:=qhG hp0 f1
 have n2:=qhG hp0 f2
 generalize g0:upd H p0 _=G0
 have a0:=qax g0
 have t0:=qau g0 hp0
 refine ⟨⟨_,SqL.of (t0 _ _ f1)⟩,?_⟩
 refine qiM (fs:=fs) (fun i σ H3=>∃v,σ=[some (.ref p1),some (.ref p2),some (.ref p0),v]/\qav H H3/\H3 p0=some (.lst (nV (Fam.pairs (fs.take i) gs)))) ⟨none,rfl,t0,a0⟩ (fun i σ H3 _ ⟨_,_,e,_⟩=>SqL.of (e _ _ f1)) ?_ ?_
 . rintro i x σ H3 hx ⟨v,rfl,s3,a3⟩ N hN
   have hi:=(ycd.mp hx).1
   (try walk_at "rd")
   refine ⟨qdw a3,⟨_,SqL.of (s3 _ _ f2)⟩,qg9 (fun _=>true) (fun b => .int ((x|||b:Nat))) (SqL.of (s3 _ _ f2)) (by omega) (fun b hbm H4 s4 R R' r1 r2=>?_) fun G4 p4 t4 hp4=>?_⟩
   . (try walk_at "rd")
     rw [qj6]
     exact r1 rfl _ (qav.refl _)
   have e:(gs.filter fun _=>true).map (fun b=>V.int ((x|||b:Nat)))=nV (gs.map fun b=>x|||b):=by
     rw [yfp.mpr fun _ _=>rfl]
     simp
   rw [e]
   generalize g4:upd G4 p4 _=G5
   have a5:=qax g4
   have t5:=t4.trans (qau g4 hp4)
   have a3:=t5 _ _ a3
   have lp:(Fam.pairs (fs.take i) gs).length<=5000:=by
     rw [Fam.pairs_len]
     exact ycf (ygf (show (fs.take i).length<=70 by rw [yem];omega) l2) (by decide)
   refine ⟨p0,p4,_,_,rfl,rfl,a3,a5,qaE (by rw [qb6,qb6,ybz];omega),?_⟩
   rw [qg2]
   refine hN _ _ ⟨_,rfl,(s3.trans t5).upd hp0,?_⟩
   rw [qaj,yfv,hx]
   unfold Fam.pairs
   rw [List.flatMap_append]
   simp
 . rintro σ H3 ⟨v,rfl,s3,a3⟩
   rw [yco] at a3
   (try walk_at "rd")
   have lp:(Fam.pairs fs gs).length<=5000:=by
     rw [Fam.pairs_len]
     exact ycf (ygf l1 l2) (by decide)
   refine ⟨_,rfl,p0,_,rfl,SqL.of a3,by omega,fun b hb=>yae (Fam.pairs_lt b1 b2 b hb) (by decide),fun G4 p4 hp4 t4 a4=>?_⟩
   exact q _ p4 (qaM s3 hp4) (s3.trans t4) a4
abbrev qaz:Stmt:=top 45
def qcE:qai ["family", "one", "k", "other"] ["family", "one", "k"] (qab qaz):=fsc
def qcx {f:Addr} {fd:FuncData} (F:Fun K "first_met_by_alone" "first_met_by_alone" qaz f fd) (T:Txt mg):qaN P w K mg base CX0 1 f fd ["family", "one", "k"] qbs:=F.ok qcE (fun vs H Q E h=>absurd h id) (fun cdv A outer s H vs Q E hr h=>absurd h id)
abbrev qcR:Stmt:=top 43
def qkb:qai ["family", "one", "missed", "own", "k", "other"] ["family", "one"] (qab qcR):=fsc
def qkl {f:Addr} {fd:FuncData} (F:Fun K "looked" "looked" qcR f fd) (T:Txt mg):qaN P w K mg base CX0 1 f fd ["family", "one"] qbs:=F.ok qkb (fun vs H Q E h=>absurd h id) (fun cdv A outer s H vs Q E hr h=>absurd h id)
abbrev qaJ:Stmt:=top 48
def qdK:qai ["many", "one", "other", "s"] ["many", "one", "other"] (qab qaJ):=fsc
def qdR {f:Addr} {fd:FuncData} (F:Fun K "first_left_out" "first_left_out" qaJ f fd) (T:Txt mg):qaN P w K mg base CX0 1 f fd ["many", "one", "other"] qbs:=F.ok qdK (fun vs H Q E h=>absurd h id) (fun cdv A outer s H vs Q E hr h=>absurd h id)
abbrev qfH:Stmt:=top 47
def qoR:qai ["many", "one", "other", "a", "b", "s"] ["many", "one", "other"] (qab qfH):=fsc
def qpw {f:Addr} {fd:FuncData} (F:Fun K "held" "held" qfH f fd) (T:Txt mg):qaN P w K mg base CX0 1 f fd ["many", "one", "other"] qbs:=F.ok qoR (fun vs H Q E h=>absurd h id) (fun cdv A outer s H vs Q E hr h=>absurd h id)
abbrev qbT:Stmt:=top 50
def qeE:qai ["many", "family"] ["many", "family"] (qab qbT):=fsc
def qeI (K:W.Frag):Sp:=sp2 fun x y H Q=>∃(m:Nat) (p:Addr) (fs:List Nat),x = .int m/\m<=8/\y = .ref p/\H p=some (.lst (nV fs))/\∀H' p',H p'=none->qav H H'->H' p'=some (.lst (bV (tab (2^m) (Fam.sayP fs))))->Q (.ref p') H'
def qhV {f:Addr} {fd:FuncData} (F:Fun K "table_of" "table_of" qbT f fd) (T:Txt mg) {f_61:Addr} {fd_61:FuncData} (C_61:Cal P w K mg base "says" 2 ["family", "one"] (qf0 K) f_61 fd_61):qaN P w K mg base CX0 3 f fd ["many", "family"] (qeI K):=by
 have sc:=qeE
 refine F.ok qeE (fun vs H Q E h=>by obtain ⟨_,_,rfl,_⟩:=h;rfl) (fun cdv A outer s H vs Q E hr h=>?_)
 obtain ⟨x0,x1,rfl,h⟩:=h
 refine ⟨_,(qae (qal (qbj (N:=["s", "family"]) (nt:=1) (caps:=[1]) qaT rfl (qaW (by rfl) T.n_range (qaa (qar qeg qaf (pv 0)) qad)) (fun _ _ _ _ _=>(qaw (i:=0) (show List.Nodup (α:=Str) ["s", "family"] from by decide +kernel) rfl (Or.inl rfl))) qa2 (fun _ _ _ _ _=>qbi) (fun _ _ _ _ _=>(pec C_61 hr (qaa (pv 1) (qaa (pv 0) qad))))))),?_⟩
 refine rdg (σ':=[some x0,some x1]) rfl ?_
 obtain ⟨m,p,fs,rfl,hm,rfl,f1,q⟩:=h
 walk_at "rd"
 have p8:=yaf (n:=2) (by decide) hm;rw [show 2^8=256 from rfl] at p8
 have pp:=yah m
 rw [qdc]
 refine ⟨qcD (by omega) (by omega) (by decide) (by decide),by omega,by omega,?_⟩
 rw [yer]
 refine qec (fun _=>true) (fun k => .bl (Fam.sayP fs k)) (by omega) (fun k hk H1 sm R R' r1 r2=>?_) fun H1 p1 sm hp=>?_
 . (try walk_at "rd")
   exact ⟨_,_,rfl,p,fs,k,rfl,SqL.of (sm _ _ f1),rfl,r1 rfl _ (qav.refl _)⟩
 . rw [qoY]
   exact q _ p1 (qaM sm hp) (sm.trans (qav.new hp)) qaj
abbrev qcj:Stmt:=top 51
def qi8:qai ["many", "family"] ["many", "family"] (qab qcj):=fsc
def qjD {f:Addr} {fd:FuncData} (F:Fun K "noes_by" "noes_by" qcj f fd) (T:Txt mg):qaN P w K mg base CX0 1 f fd ["many", "family"] qbs:=F.ok qi8 (fun vs H Q E h=>absurd h id) (fun cdv A outer s H vs Q E hr h=>absurd h id)
abbrev qaR:Stmt:=top 55
def qeo:qai ["many", "table", "x", "y", "x_alone", "y_alone", "s"] ["many", "table", "x", "y"] (qab qaR):=fsc
def qen {f:Addr} {fd:FuncData} (F:Fun K "first_parting" "first_parting" qaR f fd) (T:Txt mg):qaN P w K mg base CX0 1 f fd ["many", "table", "x", "y"] qbs:=F.ok qeo (fun vs H Q E h=>absurd h id) (fun cdv A outer s H vs Q E hr h=>absurd h id)
abbrev qbb:Stmt:=top 54
def qfr:qai ["many", "table", "x", "y", "s", "t"] ["many", "table", "x", "y"] (qab qbb):=fsc
def qfB {f:Addr} {fd:FuncData} (F:Fun K "compared_in" "compared_in" qbb f fd) (T:Txt mg):qaN P w K mg base CX0 1 f fd ["many", "table", "x", "y"] qbs:=F.ok qfr (fun vs H Q E h=>absurd h id) (fun cdv A outer s H vs Q E hr h=>absurd h id)
abbrev qbS:Stmt:=top 53
def qh3:qai ["many", "family", "x", "y"] ["many", "family", "x", "y"] (qab qbS):=fsc
def qij {f:Addr} {fd:FuncData} (F:Fun K "compared" "compared" qbS f fd) (T:Txt mg):qaN P w K mg base CX0 1 f fd ["many", "family", "x", "y"] qbs:=F.ok qh3 (fun vs H Q E h=>absurd h id) (fun cdv A outer s H vs Q E hr h=>absurd h id)
abbrev qbx:Stmt:=top 57
def qd8:qai ["many", "table", "k"] ["many", "table", "k"] (qab qbx):=fsc
def qf8 (K:W.Frag):Sp:=sp3 fun x y z H Q=>∃(m:Nat) (p:Addr) (f:Nat->Bool) (k:Nat),x = .int m/\m<=8/\y = .ref p/\H p=some (.lst (bV (tab (2^m) f)))/\z = .int k/\k<m/\∀H',qav H H'->Q (.int (Fam.trn m f k:Nat)) H'
def qhc {f:Addr} {fd:FuncData} (F:Fun K "turned_by" "turned_by" qbx f fd) (T:Txt mg)  : qaN P w K mg base CX0 1 f fd ["many", "table", "k"] (qf8 K):=by
 have sc:=qd8
 refine F.ok qd8 (fun vs H Q E h=>by obtain ⟨_,_,_,rfl,_⟩:=h;rfl) (fun cdv A outer s H vs Q E hr h=>?_)
 obtain ⟨x0,x1,x2,rfl,h⟩:=h
 refine ⟨_,(qae (qal (qat (qaL (K:=K) rfl) (by rfl) T.n_len PySem.boot_len (qaa (qbj (N:=["s", "table", "k"]) (nt:=1) (caps:=[1,2]) qaT rfl (qaW (by rfl) T.n_range (qaa (qar qeg qaf (pv 0)) qad)) (fun _ _ _ _ _=>(qaw (i:=0) (show List.Nodup (α:=Str) ["s", "table", "k"] from by decide +kernel) rfl (Or.inl rfl))) qa2 (fun _ _ _ _ _=>(qgy (PW.pt (qfR (qcr (qbw (qbf (qc0 (K:=K) rfl) (pv 1) (pv 0) (fun _ _=>rfl)))) (qdV (qbw (qbf (qc0 (K:=K) rfl) (pv 1) (qar qpg (pv 0) (qar qeg qaf (pv 2))) (fun _ _=>rfl)))))))) (fun _ _ _ _ _=>(pv 0))) qad)))),?_⟩
 refine rdg (σ':=[some x0,some x1,some x2]) rfl ?_
 obtain ⟨m,p,f,k,rfl,hm,rfl,f1,rfl,hk,q⟩:=h
 walk_at "rd"
 have pp:=yah m
 have p8:2^m<=256:=yaf (n:=2) (by decide) hm
 have pk:2^k<2^m:=ybo (by decide) hk
 rw [qdc]
 refine ⟨qcD (by omega) (by omega) (by decide) (by decide),by omega,by omega,?_⟩
 rw [yer]
 refine qec (fun s=>!f s&&f (s|||2^k)) (fun s => .int (s:Nat)) (by omega) (fun s hs H1 sm R R' r1 r2=>?_) fun H1 p1 sm hp=>?_
 . (try walk_at "rd")
   refine qbC (SqL.of (sm _ _ f1)) (qkV hs) ⟨_,rfl,?_⟩
   (try walk_at "rd")
   cases h1:f s with
   | true =>
     rw [if_neg (by decide)]
     exact r2 (by rw [h1];rfl) _ (qav.refl _)
   | false =>
     rw [if_pos rfl]
     rw [qdc,qj6]
     refine ⟨qcD (by omega) (by omega) (by decide) (by decide),qbC (SqL.of (sm _ _ f1)) (qkV (ybn hs pk)) ⟨_,rfl,qnA (fun hc=>r1 (by rw [h1,hc];rfl) _ (qav.refl _)) fun hc=>r2 (by rw [h1,hc];rfl) _ (qav.refl _)⟩⟩
 . refine ⟨p1,rfl,_,.inl (SqL.of qaj),?_⟩
   rw [ybz]
   exact q _ (sm.trans (qav.new hp))
abbrev qdZ:Stmt:=top 56
def qiK:qai ["many", "family", "table"] ["many", "family"] (qab qdZ):=fsc
def qik (K:W.Frag):Sp:=sp2 fun x y H Q=>∃(m:Nat) (p:Addr) (fs:List Nat),x = .int m/\m<=8/\y = .ref p/\H p=some (.lst (nV fs))/\∀H' p',H p'=none->qav H H'->H' p'=some (.lst (nV (Fam.trns m (Fam.sayP fs))))->Q (.ref p') H'
def qmU {f:Addr} {fd:FuncData} (F:Fun K "turns" "turns" qdZ f fd) (T:Txt mg) {f_38:Addr} {fd_38:FuncData} (C_38:Cal P w K mg base "table_of" 3 ["many", "family"] (qeI K) f_38 fd_38) {f_28:Addr} {fd_28:FuncData} (C_28:Cal P w K mg base "turned_by" 1 ["many", "table", "k"] (qf8 K) f_28 fd_28):qaN P w K mg base CX0 4 f fd ["many", "family"] (qik K):=by
 have sc:=qiK
 refine F.ok qiK (fun vs H Q E h=>by obtain ⟨_,_,rfl,_⟩:=h;rfl) (fun cdv A outer s H vs Q E hr h=>?_)
 obtain ⟨x0,x1,rfl,h⟩:=h
 refine ⟨_,(qac (qay (i:=2) sc.nd rfl (Or.inr rfl) (pec C_38 hr (qaa (pv 0) (qaa (pv 1) qad))))
   (qae (qal (qbj (N:=["k", "many", "table"]) (nt:=1) (caps:=[0,2]) qaT rfl (qaW (by rfl) T.n_range (qaa (pv 0) qad)) (fun _ _ _ _ _=>(qaw (i:=0) (show List.Nodup (α:=Str) ["k", "many", "table"] from by decide +kernel) rfl (Or.inl rfl))) qa2 (fun _ _ _ _ _=>qbi) (fun _ _ _ _ _=>(pec C_28 hr (qaa (pv 1) (qaa (pv 2) (qaa (pv 0) qad))))))))),?_⟩
 refine rdg (σ':=[some x0,some x1,none]) rfl ?_
 obtain ⟨m,p,fs,rfl,hm,rfl,f1,q⟩:=h
 walk_at "rd"
 refine ⟨_,_,rfl,m,p,fs,rfl,hm,rfl,f1,fun G1 p1 hp1 t1 a1=>?_⟩
 (try walk_at "rd")
 refine ⟨by omega,by omega,?_⟩
 rw [yer]
 refine qec (fun _=>true) (fun k => .int (Fam.trn m (Fam.sayP fs) k:Nat)) (by omega) (fun k hk H1 sm R R' r1 r2=>?_) fun H1 p2 sm hp=>?_
 . (try walk_at "rd")
   exact ⟨_,_,_,rfl,m,p1,_,k,rfl,hm,rfl,sm _ _ a1,rfl,hk,fun H2 s2=>r1 rfl _ s2⟩
 have e:((List.range m).filter fun _=>true).map (fun k=>V.int (Fam.trn m (Fam.sayP fs) k:Nat))=nV (Fam.trns m (Fam.sayP fs)):=by
   rw [yfp.mpr fun _ _=>rfl]
   simp [Fam.trns]
 rw [e]
 have t2:=t1.trans sm
 exact q _ p2 (qaM t2 hp) (t2.trans (qav.new hp)) qaj
abbrev qaZ:Stmt:=top 35
def qcC:qai ["numbers"] ["numbers"] (qab qaZ):=fsc
def qsS (ns:List Nat):Str:=_root_.PySem.Txt.join " " (ns.map fun n=>Str.ofString (toString ((n:Nat):Int)))
def qo3:∀n,n<=256->(Str.ofString (toString ((n:Nat):Int))).length<=3:=by
 have:∀n,n<257->(Str.ofString (toString ((n:Nat):Int))).length<=3:=by decide +kernel
 exact fun n h=>this n (by omega)
def qeH (K:W.Frag):Sp:=sp1 fun x H Q=>∃(p:Addr) (ns:List Nat),x = .ref p/\H p=some (.lst (nV ns))/\ns.length<=9/\(∀n∈ns,n<=256)/\∀H',qav H H'->Q (.str (qsS ns)) H'
def qeG {f:Addr} {fd:FuncData} (F:Fun K "show_numbers" "show_numbers" qaZ f fd) (T:Txt mg)  : qaN P w K mg base CX0 1 f fd ["numbers"] (qeH K):=by
 have sc:=qcC
 refine F.ok qcC (fun vs H Q E h=>by obtain ⟨_,rfl,_⟩:=h;rfl) (fun cdv A outer s H vs Q E hr h=>?_)
 obtain ⟨x0,rfl,h⟩:=h
 refine ⟨_,(qae (qal (qdU ygp ygs ygt (qf3 (K:=K) rfl) qak (qaa (qbj (N:=["number"]) (nt:=1) (caps:=[]) qaT rfl (qa3 (pv 0)) (fun _ _ _ _ _=>(qaw (i:=0) (show List.Nodup (α:=Str) ["number"] from by decide +kernel) rfl (Or.inl rfl))) qa2 (fun _ _ _ _ _=>qbi) (fun _ _ _ _ _=>(qcw qht (by rfl) T.n_str PyProof.Rows.boot_str (qaa (pv 0) qad)))) qad)))),?_⟩
 refine rdg (σ':=[some x0]) rfl ?_
 obtain ⟨p,ns,rfl,f1,hl,hn,q⟩:=h
 walk_at "rd"
 refine ⟨rfl,⟨_,SqL.of f1⟩,qg9 (fs:=ns) (fun _=>true) (fun n => .str (Str.ofString (toString ((n:Nat):Int)))) (SqL.of f1) (by omega) (fun n hm H2 s2 R R' r1 r2=>?_) fun H2 p3 s2 hp3=>?_⟩
 . (try walk_at "rd")
   have:=hn n hm
   exact ⟨by rw [Int.natAbs_natCast];exact ybi (Nat.log2_le_self n) (by omega),r1 rfl _ (qav.refl _)⟩
 . rw [yfp.mpr fun _ _=>rfl]
   rw [qhJ]
   refine ⟨_,p3,_,rfl,rfl,SqL.of qaj,qdk (M:=3) (N:=9) (fun y hy=>?_) (by rw [ybz];exact hl) (by rw [Tx.lit_space];decide) (by decide),q _ (s2.trans (qav.new hp3))⟩
   obtain ⟨n,hm,rfl⟩:=ybq.mp hy
   exact qo3 n (hn n hm)
abbrev qaA:Stmt:=top 36
def qcy:qai ["words", "told"] ["words", "told"] (qab qaA):=fsc
def qcG {f:Addr} {fd:FuncData} (F:Fun K "show_word_and_sets" "show_word_and_sets" qaA f fd) (T:Txt mg):qaN P w K mg base CX0 1 f fd ["words", "told"] qbs:=F.ok qcy (fun vs H Q E h=>absurd h id) (fun cdv A outer s H vs Q E hr h=>absurd h id)
abbrev qa9:Stmt:=top 37
def qft:qai ["words", "told"] ["words", "told"] (qab qa9):=fsc
def qfA {f:Addr} {fd:FuncData} (F:Fun K "show_looked" "show_looked" qa9 f fd) (T:Txt mg):qaN P w K mg base CX0 1 f fd ["words", "told"] qbs:=F.ok qft (fun vs H Q E h=>absurd h id) (fun cdv A outer s H vs Q E hr h=>absurd h id)
abbrev qcM:Stmt:=top 59
def qlL:qai ["counts", "lists", "count"] ["counts"] (qab qcM):=fsc
def qjM {f:Addr} {fd:FuncData} (F:Fun K "ranked" "ranked" qcM f fd) (T:Txt mg):qaN P w K mg base CX0 1 f fd ["counts"] qbs:=F.ok qlL (fun vs H Q E h=>absurd h id) (fun cdv A outer s H vs Q E hr h=>absurd h id)
abbrev qdW:Stmt:=top 58
def ql7:qai ["many", "family", "table", "x", "y", "told"] ["many", "family"] (qab qdW):=fsc
def qmK {f:Addr} {fd:FuncData} (F:Fun K "ranks" "ranks" qdW f fd) (T:Txt mg):qaN P w K mg base CX0 1 f fd ["many", "family"] qbs:=F.ok ql7 (fun vs H Q E h=>absurd h id) (fun cdv A outer s H vs Q E hr h=>absurd h id)
abbrev qbm:Stmt:=top 39
def qgk:qai ["words", "names"] ["words", "names"] (qab qbm):=fsc
def qgn {f:Addr} {fd:FuncData} (F:Fun K "show_alike" "show_alike" qbm f fd) (T:Txt mg):qaN P w K mg base CX0 1 f fd ["words", "names"] qbs:=F.ok qgk (fun vs H Q E h=>absurd h id) (fun cdv A outer s H vs Q E hr h=>absurd h id)
abbrev qbl:Stmt:=top 38
def qgj:qai ["words", "told"] ["words", "told"] (qab qbl):=fsc
def qgp {f:Addr} {fd:FuncData} (F:Fun K "show_ranks" "show_ranks" qbl f fd) (T:Txt mg):qaN P w K mg base CX0 1 f fd ["words", "told"] qbs:=F.ok qgj (fun vs H Q E h=>absurd h id) (fun cdv A outer s H vs Q E hr h=>absurd h id)
abbrev qbz:Stmt:=top 68
def qhl:qai ["weights", "one"] ["weights", "one"] (qab qbz):=fsc
def qhv {f:Addr} {fd:FuncData} (F:Fun K "weight_of" "weight_of" qbz f fd) (T:Txt mg):qaN P w K mg base CX0 1 f fd ["weights", "one"] qbs:=F.ok qhl (fun vs H Q E h=>absurd h id) (fun cdv A outer s H vs Q E hr h=>absurd h id)
abbrev qcN:Stmt:=top 70
def qjW:qai ["x", "y", "s", "t", "yes", "no"] ["x", "y", "s", "t"] (qab qcN):=fsc
def qke {f:Addr} {fd:FuncData} (F:Fun K "traded" "traded" qcN f fd) (T:Txt mg):qaN P w K mg base CX0 1 f fd ["x", "y", "s", "t"] qbs:=F.ok qjW (fun vs H Q E h=>absurd h id) (fun cdv A outer s H vs Q E hr h=>absurd h id)
abbrev qa8:Stmt:=top 74
def qfC:qai ["weights", "yes", "no", "bar"] ["weights", "yes", "no"] (qab qa8):=fsc
def qfz {f:Addr} {fd:FuncData} (F:Fun K "bar_between" "bar_between" qa8 f fd) (T:Txt mg):qaN P w K mg base CX0 1 f fd ["weights", "yes", "no"] qbs:=F.ok qfC (fun vs H Q E h=>absurd h id) (fun cdv A outer s H vs Q E hr h=>absurd h id)
abbrev qaP:Stmt:=top 72
def qei:qai ["length", "most", "told", "first"] ["length", "most"] (qab qaP):=fsc
def qej {f:Addr} {fd:FuncData} (F:Fun K "falling_lists" "falling_lists" qaP f fd) (T:Txt mg):qaN P w K mg base CX0 1 f fd ["length", "most"] qbs:=F.ok qei (fun vs H Q E h=>absurd h id) (fun cdv A outer s H vs Q E hr h=>absurd h id)
abbrev qbG:Stmt:=top 73
def qhI:qai ["many", "lists", "falling", "weights", "names", "weight", "k"] ["many", "lists", "falling"] (qab qbG):=fsc
def qho {f:Addr} {fd:FuncData} (F:Fun K "given_out" "given_out" qbG f fd) (T:Txt mg):qaN P w K mg base CX0 1 f fd ["many", "lists", "falling"] qbs:=F.ok qhI (fun vs H Q E h=>absurd h id) (fun cdv A outer s H vs Q E hr h=>absurd h id)
abbrev qca:Stmt:=top 71
def qji:qai ["many", "family", "lists", "yes", "no", "falling", "weights", "bar"] ["many", "family", "lists"] (qab qca):=fsc
def qjq {f:Addr} {fd:FuncData} (F:Fun K "weighed" "weighed" qca f fd) (T:Txt mg):qaN P w K mg base CX0 1 f fd ["many", "family", "lists"] qbs:=F.ok qji (fun vs H Q E h=>absurd h id) (fun cdv A outer s H vs Q E hr h=>absurd h id)
abbrev qbq:Stmt:=top 69
def qgi:qai ["many", "family", "told"] ["many", "family"] (qab qbq):=fsc
def qgH {f:Addr} {fd:FuncData} (F:Fun K "by_weights" "by_weights" qbq f fd) (T:Txt mg):qaN P w K mg base CX0 1 f fd ["many", "family"] qbs:=F.ok qgi (fun vs H Q E h=>absurd h id) (fun cdv A outer s H vs Q E hr h=>absurd h id)
abbrev qaY:Stmt:=top 40
def qfc:qai ["words", "told", "yes", "no"] ["words", "told"] (qab qaY):=fsc
def qeC {f:Addr} {fd:FuncData} (F:Fun K "show_weights" "show_weights" qaY f fd) (T:Txt mg):qaN P w K mg base CX0 1 f fd ["words", "told"] qbs:=F.ok qfc (fun vs H Q E h=>absurd h id) (fun cdv A outer s H vs Q E hr h=>absurd h id)
abbrev qaH:Stmt:=top 83
def qdD:qai ["many", "family", "x", "y"] ["many", "family", "x", "y"] (qab qaH):=fsc
def qdm {f:Addr} {fd:FuncData} (F:Fun K "compared_unlike" "compared_unlike" qaH f fd) (T:Txt mg):qaN P w K mg base CX0 1 f fd ["many", "family", "x", "y"] qbs:=F.ok qdD (fun vs H Q E h=>absurd h id) (fun cdv A outer s H vs Q E hr h=>absurd h id)
abbrev qbX:Stmt:=top 80
def qfj:qai ["word"] ["word"] (qab qbX):=fsc
def qfl:Sp:=sp1 fun x H Q=>∃w:Str,x = .str w/\Tx.Wd w/\∀H',qav H H'->Q (.str w) H'
def qie {f:Addr} {fd:FuncData} (F:Fun K "new_name" "new_name" qbX f fd) (T:Txt mg) {f_44:Addr} {fd_44:FuncData} (C_44:Cal P w K mg base "is_word" 1 ["text"] qex f_44 fd_44):qaN P w K mg base CX0 2 f fd ["word"] qfl:=by
 have sc:=qfj
 refine F.ok qfj (fun vs H Q E h=>by obtain ⟨_,rfl,_⟩:=h;rfl) (fun cdv A outer s H vs Q E hr h=>?_)
 obtain ⟨x0,rfl,h⟩:=h
 refine ⟨_,(qac (qaF (qcr (qbw (pec C_44 hr (qaa (pv 0) qad)))) (qae qco) qan)
   (qae (qal (pv 0)))),?_⟩
 refine rdg (σ':=[some x0]) rfl ?_
 obtain ⟨w,rfl,hw,q⟩:=h
 walk_at "rd"
 exact ⟨_,rfl,w,rfl,hw,fun H' s'=>⟨true,rfl,by rw [if_neg (by decide)];exact q _ s'⟩⟩
abbrev qbZ:Stmt:=top 79
def qfd:qai ["row", "deed", "parts"] ["row"] (qab qbZ):=fsc
def qeM (K:W.Frag):Sp:=sp1 fun x H Q=>∃(z d:Str) (r ks:List Str),x = .str z/\Prt z d r ks/\∀p H',H p=none->qav H H'->H' p=some (.lst (sV (d::r)))->Q (.ref p) H'
def qhP {f:Addr} {fd:FuncData} (F:Fun K "parts_of" "parts_of" qbZ f fd) (T:Txt mg) {cD aW cX cN cF cH cO cM:Addr} (Z:Xt P w K mg cD aW cX cN cF cH cO cM)  : qaN P w K mg base CX0 1 f fd ["row"] (qeM K):=by
 have sc:=qfd
 refine F.ok qfd (fun vs H Q E h=>by obtain ⟨_,rfl,_⟩:=h;rfl) (fun cdv A outer s H vs Q E hr h=>?_)
 obtain ⟨x0,rfl,h⟩:=h
 refine ⟨_,(qac (qaF (qcr (qbw (qat qb2 (by rfl) T.n_isinstance PyProof.Rows.boot_isinstance (qaa (pv 0) (qaa (qdN (v := .ty "str") (by rfl) T.n_str PyProof.Rows.boot_str rfl) qad))))) (qae qco) qan)
   (qac (qay (i:=1) sc.nd rfl (Or.inl rfl) (qbf (qc0 (K:=K) rfl) (qdU ygp ygz yha qgG (pv 0) (qaa qak qad)) qaf (fun _ _=>rfl)))
   (qac (qaF (qkk (qo4 (P:=P) (w:=w) (K:=K) rfl rfl rfl (pv 1) (qb5 (v := .ref aW) (by rfl) Z.gW rfl)) (by with_unfolding_all rfl)) (qae qco) qan)
   (qac (qay (i:=2) sc.nd rfl (Or.inl rfl) (qi2 (qam (qaD (K:=K) rfl hr.units0) (pv 1) qak (qaq _)) (qdU ygp ygz yha qkK (pv 0) (qaa qak (qaa qaf qad))) (qdU ygp ygz yha qgG (pv 0) (qaa qak qad))))
   (qac (qaF (qam (qfk (K:=K) rfl hr.units0) (qat (qaL (K:=K) rfl) (by rfl) T.n_len PySem.boot_len (qaa (pv 2) qad)) (qar qb9 (qat (qaL (K:=K) rfl) (by rfl) T.n_len PySem.boot_len (qaa (qh9 (P:=P) (w:=w) (K:=K) rfl rfl rfl (qb5 (v := .ref aW) (by rfl) Z.gW rfl) (pv 1) (fun _ _=>rfl)) qad)) qaf) (qaq _)) (qae qco) qan)
   (qae (qal (pv 2)))))))),?_⟩
 refine rdg (σ':=[some x0,none,none]) rfl ?_
 obtain ⟨z,d,r,ks,rfl,hP,q⟩:=h
 obtain ⟨kvs,kd1,kd2⟩:=Z.wn.kv
 obtain ⟨t,vt,ht⟩:=kd2 d ks hP.kd
 have hz:=hP.sz
 have hln:=hP.ln
 walk_at "rd"
 refine ⟨_, "str",⟨rfl,rfl⟩, "str",rfl,by decide,?_⟩
 rw [if_neg (by decide)]
 refine ⟨rfl,z,_,rfl,rfl,by rw [Tx.lit_space];rfl,by omega,fun p1 hp1=>?_⟩
 generalize g1:upd H p1 _=G1
 have a1:=qax g1
 have s1:=qau g1 hp1
 refine qbC (SqL.of a1) (qf7 hP.hd) ⟨kvs,Sum.inr d,rfl,kd1,false,by rw [vt];rfl,?_⟩
 rw [if_neg (by decide)]
 (try walk_at "rd")
 have hps:=hP.ps
 by_cases hl:d=("let" : Str)
 . rw [if_pos hl] at hps
   rw [if_pos hl]
   refine ⟨rfl,z,_,2,rfl,rfl,by rw [Tx.lit_space];rfl,by omega,by decide,fun p2 hp2=>?_⟩
   rw [show _root_.PySem.Txt.splitMax z " " ((2:Nat):Int)=d::r from hps]
   refine ⟨p2,rfl,_,.inl (SqL.of qaj),kvs,Sum.inr d,rfl,kd1,_,vt,t,rfl,_,.inr (ht _),?_⟩
   rw [qbv,qbv,yca]
   exact ⟨false,by rw [decide_eq_true (by omega)];rfl,qgJ (q p2 _ (qaM s1 hp2) (s1.trans (qav.new hp2)) qaj)⟩
 . rw [if_neg hl] at hps
   rw [if_neg hl]
   refine ⟨rfl,z,_,rfl,rfl,by rw [Tx.lit_space];rfl,by omega,fun p2 hp2=>?_⟩
   rw [hps]
   refine ⟨p2,rfl,_,.inl (SqL.of qaj),kvs,Sum.inr d,rfl,kd1,_,vt,t,rfl,_,.inr (ht _),?_⟩
   rw [qbv,qbv,yca]
   exact ⟨false,by rw [decide_eq_true (by omega)];rfl,qgJ (q p2 _ (qaM s1 hp2) (s1.trans (qav.new hp2)) qaj)⟩
abbrev qaO:Stmt:=qey (top 78) 0
def qcs:qai ["self", "text"] ["self", "text"] (qab qaO):=fsc
def qjU (cD:Addr):Sp:=sp2 fun x y H Q=>∃(d dx:Addr) (ws:List Str),x = .ref d/\H d=some (.ins cD dx [])/\y = .str (_root_.PySem.Txt.join " " ws)/\Tx.Wds ws/\∀pk H',H pk=none->qcY cD H' d pk ws []->SmB d H H'->Q .non H'
def qem {f:Addr} {fd:FuncData} (F:Fun K "__init__" "Desk.__init__" qaO f fd) (T:Txt mg) {cD aW cX cN cF cH cO cM:Addr} (Z:Xt P w K mg cD aW cX cN cF cH cO cM) {f_19:Addr} {fd_19:FuncData} (C_19:Cal P w K mg base "read_names" 2 ["text"] (qc8 K) f_19 fd_19):qaN P w K mg base CX0 3 f fd ["self", "text"] (qjU cD):=by
 have sc:=qcs
 refine F.ok qcs (fun vs H Q E h=>by obtain ⟨_,_,rfl,_⟩:=h;rfl) (fun cdv A outer s H vs Q E hr h=>?_)
 obtain ⟨x0,x1,rfl,h⟩:=h
 refine ⟨_,(qac (qnQ (pv 0) (pec C_19 hr (qaa (pv 1) qad)) rfl)
   (qae (qnQ (pv 0) qmP rfl))),?_⟩
 refine rdg (σ':=[some x0,some x1]) rfl ?_
 obtain ⟨d,dx,ws,rfl,hd,rfl,hw,q⟩:=h
 walk_at "rd"
 refine ⟨_,rfl,ws,rfl,hw,fun pw H1 hpw s1 a1=>?_⟩
 (try walk_at "rd")
 have npd:pw≠d:=fun e=>by rw [e,hd] at hpw;cases hpw
 refine ⟨cD,dx,[],s1 _ _ hd,Z.cl,Z.nw,by decide,fun pk hpk=>?_⟩
 have nkd:pk≠d:=fun e=>by rw [e,qaj] at hpk;cases hpk
 rw [qap nkd] at hpk
 have nkw:pk≠pw:=fun e=>by rw [e,a1] at hpk;cases hpk
 refine ⟨cD,dx,_,by rw [qap (Ne.symm nkd),qaj],Z.cl,Z.nk,by show 1<1000;decide,?_⟩
 rw [qlY]
 refine q pk _ (qaM s1 hpk) ⟨⟨dx,pw,qaj,by rw [qap npd,qap (Ne.symm nkw),qap npd];exact a1⟩,⟨[],by rw [qap nkd,qaj],rfl,fun n=>rfl⟩,hw,fun n fs h=>(by cases h),by decide⟩ fun b o e hb=>?_
 rw [qap hb,qap (qaX (s1 _ _ e) hpk),qap hb]
 exact s1 _ _ e
abbrev qaK:Stmt:=qey (top 78) 3
def qcc:qai ["self", "word"] ["self", "word"] (qab qaK):=fsc
def qh5 (cD cN:Addr):Sp:=qpX fun x y H Q E=>∃(d pk:Addr) (ws:List Str) (m:List (Str×List Nat)) (n:Str),x = .ref d/\qcY cD H d pk ws m/\y = .str n/\(∀fs,m.lookup n=some fs->∀p,H p=some (.lst (nV fs))->Q (.ref p) H)/\(m.lookup n=none->E (.ref cN) none H)
def qdI {f:Addr} {fd:FuncData} (F:Fun K "family_by" "Desk.family_by" qaK f fd) (T:Txt mg) {cD aW cX cN cF cH cO cM:Addr} (Z:Xt P w K mg cD aW cX cN cF cH cO cM)  : qaN P w K mg base (CX1 P w) 1 f fd ["self", "word"] (qh5 cD cN):=by
 have sc:=qcc
 refine F.okX qcc (fun vs H Q E h=>by obtain ⟨_,_,rfl,_⟩:=h;rfl) (fun cdv A outer s H vs Q E hr h=>?_)
 obtain ⟨x0,x1,rfl,h⟩:=h
 refine ⟨_,(qac (qaF (qkk (qgU (qmm hr) (pv 1) (qc6 (pv 0) rfl)) (by with_unfolding_all rfl)) (qae (qdr (by rfl) Z.gN Z.xN yhb rfl qcK qak)) qan)
   (qae (qal (qos (qmm hr) (qc6 (pv 0) rfl) (pv 1) (fun _ _=>rfl))))),?_⟩
 refine rdg (σ':=[some x0,some x1]) rfl ?_
 obtain ⟨d,pk,ws,m,n,rfl,D,rfl,q,qx⟩:=h
 obtain ⟨dx,pw,o1,o2⟩:=D.ob
 obtain ⟨kvs,k1,k2⟩:=D.dc
 walk_at "rd"
 cases e:m.lookup n with
 | none=>exact ⟨cD,dx,_,o1,Z.cl,Z.nk,_,qfU _ _,pk,rfl,_,qjE.k (k:=Sum.inr n) k1,true,by rw [k2.no e];rfl,qjF (qx e)⟩
 | some fs =>
   obtain ⟨p,v1,v2⟩:=k2.get e
   refine ⟨cD,dx,_,o1,Z.cl,Z.nk,_,qfU _ _,pk,rfl,_,qjE.k (k:=Sum.inr n) k1,false,by rw [v1];rfl,qgJ ?_⟩
   exact ⟨cD,dx,_,o1,Z.cl,Z.nk,_,qfU _ _,pk,rfl,_,(by have:=qjE.k (k:=Sum.inr n) k1;rw [v1] at this;exact this),q fs e p v2⟩
abbrev qaB:Stmt:=qey (top 78) 4
def qbK:qai ["self", "name"] ["self", "name"] (qab qaB):=fsc
def qlx (cD cF:Addr):Sp:=qpX fun x y H Q E=>∃(d pk:Addr) (ws:List Str) (m:List (Str×List Nat)) (n:Str),x = .ref d/\qcY cD H d pk ws m/\y = .str n/\(m.lookup n≠none\/m.length<20->Q .non H)/\(m.lookup n=none->20<=m.length->E (.ref cF) none H)
def qcB {f:Addr} {fd:FuncData} (F:Fun K "look_for_room" "Desk.look_for_room" qaB f fd) (T:Txt mg) {cD aW cX cN cF cH cO cM:Addr} (Z:Xt P w K mg cD aW cX cN cF cH cO cM)  : qaN P w K mg base (CX1 P w) 1 f fd ["self", "name"] (qlx cD cF):=by
 have sc:=qbK
 refine F.okX qbK (fun vs H Q E h=>by obtain ⟨_,_,rfl,_⟩:=h;rfl) (fun cdv A outer s H vs Q E hr h=>?_)
 obtain ⟨x0,x1,rfl,h⟩:=h
 refine ⟨_,(qae (qaF (PW.pt (qfR (qkk (qgU (qmm hr) (pv 1) (qc6 (pv 0) rfl)) (by with_unfolding_all rfl)) (qdV (qam qoX (qat qk5 (by rfl) T.n_len PySem.boot_len (qaa (qc6 (pv 0) rfl) qad)) (qet T.c_MOST_KEPT (by rfl)) (qaq _))))) (qae (qdr (by rfl) Z.gF Z.xF yhb rfl qcK qak)) qan)),?_⟩
 refine rdg (σ':=[some x0,some x1]) rfl ?_
 obtain ⟨d,pk,ws,m,n,rfl,D,rfl,q,qx⟩:=h
 obtain ⟨dx,pw,o1,o2⟩:=D.ob
 obtain ⟨kvs,k1,k2⟩:=D.dc
 walk_at "rd"
 refine ⟨cD,dx,_,o1,Z.cl,Z.nk,_,qfU _ _,pk,rfl,_,qjE.k (k:=Sum.inr n) k1,?_⟩
 cases e:m.lookup n with
 | some fs =>
   obtain ⟨p,v1,_⟩:=k2.get e
   exact ⟨false,by rw [v1];rfl,qgJ (q (.inl (by rw [e];simp)))⟩
 | none =>
   have v1:=k2.no e
   refine ⟨true,by rw [v1];rfl,qjF ⟨cD,dx,_,o1,Z.cl,Z.nk,_,qfU _ _,pk,rfl,_,k1,?_⟩⟩
   by_cases h:m.length<20
   . rw [if_neg (by rw [k2.1];omega)]
     exact q (.inr h)
   . rw [if_pos (by rw [k2.1];omega)]
     exact qx e (by omega)
abbrev qaQ:Stmt:=qey (top 78) 2
def qcq:qai ["self", "kind", "word"] ["self", "kind", "word"] (qab qaQ):=fsc
def qth (r:V->V->V->Hp->VK->XK->Prop):Sp:=fun vs H Q E=>∃x y z,vs=[x,y,z]/\r x y z H Q E
/-- what stands behind no word -/
inductive Rfs (ws:List Str) (m:List (Str×List Nat)) (cX cN:Addr):Str->Str->Addr->Prop
 | fam {w:Str}:m.lookup w=none->Rfs ws m cX cN "family" w cN
 | text {z:Str}:Tx.rF ws z=none->z.length<=100->Rfs ws m cX cN "text" z cX
def qoW {z:Str} (h:z.length<=900):(_root_.PySem.Txt.split z " ").length<=1000/\(_root_.PySem.Txt.split z "+").length<=1000/\∀q∈_root_.PySem.Txt.split z " ",(_root_.PySem.Txt.split q "+").length<=1000:=by
 rw [Tx.lit_space,Tx.lit_plus]
 refine ⟨ycf (Tx.split_len z 32) (by omega),ycf (Tx.split_len z 43) (by omega),fun q hq=>ycf (Tx.split_len q 43) ?_⟩
 have:=Tx.part_len z 32 q hq
 omega
def qip (cD cX cN:Addr):Sp:=qth fun x y z H Q E=>∃(d pk:Addr) (ws:List Str) (m:List (Str×List Nat)) (k w:Str),x = .ref d/\qcY cD H d pk ws m/\y = .str k/\z = .str w/\w.length<=900/\((∃th,Thg ws m k w th/\∀v H',qav H H'->ThV H' th v->Q v H')\/∃C,Rfs ws m cX cN k w C/\∀H',qav H H'->E (.ref C) none H')
def qep {f:Addr} {fd:FuncData} (F:Fun K "thing_of" "Desk.thing_of" qaQ f fd) (T:Txt mg) {cD aW cX cN cF cH cO cM:Addr} (Z:Xt P w K mg cD aW cX cN cF cH cO cM) {f_14:Addr} {fd_14:FuncData} (C_14:qmg P w K mg base "read_family" 4 ["words", "text"] (qeO K cX) f_14 fd_14) {f_40:Addr} {fd_40:FuncData} (C_40:Cal P w K mg base "new_name" 2 ["word"] qfl f_40 fd_40) {f_05:Addr} {fd_05:FuncData} (C_05:qlN P w K mg base cD "family_by" 1 ["self", "word"] (qh5 cD cN) f_05 fd_05) {f_26:Addr} {fd_26:FuncData} (C_26:qmg P w K mg base "read_name" 1 ["words", "word"] (qcV K cX) f_26 fd_26) {f_37:Addr} {fd_37:FuncData} (C_37:qmg P w K mg base "read_set" 2 ["words", "text"] (qdl K cX) f_37 fd_37):qaN P w K mg base (CX1 P w) 5 f fd ["self", "kind", "word"] (qip cD cX cN):=by
 have sc:=qcq
 refine F.okX qcq (fun vs H Q E h=>by obtain ⟨_,_,_,rfl,_⟩:=h;rfl) (fun cdv A outer s H vs Q E hr h=>?_)
 obtain ⟨x0,x1,x2,rfl,h⟩:=h
 refine ⟨_,(qac (qaF (qam (qaD (K:=K) rfl hr.units0) (pv 1) qak (qaq _)) (qae (qal (pec C_40 hr (qaa (pv 2) qad)))) qan)
   (qac (qaF (qam (qaD (K:=K) rfl hr.units0) (pv 1) qak (qaq _)) (qae (qal (qeU (pv 0) Z.cl C_05 hr (by decide) qff (qaa (pv 2) qad)))) qan)
   (qac (qaF (qam (qaD (K:=K) rfl hr.units0) (pv 1) qak (qaq _)) (qae (qal (qe1 C_26 hr (by decide) (by rfl) qff (qaa (qc6 (pv 0) rfl) (qaa (pv 2) qad))))) qan)
   (qac (qaF (qam (qaD (K:=K) rfl hr.units0) (pv 1) qak (qaq _)) (qae (qal (qe1 C_37 hr (by decide) (by rfl) qff (qaa (qc6 (pv 0) rfl) (qaa (pv 2) qad))))) qan)
   (qae (qal (qe1 C_14 hr (by decide) (by rfl) qff (qaa (qc6 (pv 0) rfl) (qaa (pv 2) qad))))))))),?_⟩
 refine rdg (σ':=[some x0,some x1,some x2]) rfl ?_
 obtain ⟨d,pk,ws,m,k,w,rfl,D,rfl,rfl,lw,hT⟩:=h
 obtain ⟨dx,pw,o1,o2⟩:=D.ob
 walk_at "rd"
 have hw:=D.wd
 have h8:=hw.few
 have n1:¬(Str.ofString "family" = Str.ofString "new"):=by decide +kernel
 have n2:¬(Str.ofString "name" = Str.ofString "new"):=by decide +kernel
 have n3:¬(Str.ofString "name" = Str.ofString "family"):=by decide +kernel
 have n4:¬(Str.ofString "set" = Str.ofString "new"):=by decide +kernel
 have n5:¬(Str.ofString "set" = Str.ofString "family"):=by decide +kernel
 have n6:¬(Str.ofString "set" = Str.ofString "name"):=by decide +kernel
 have n7:¬(Str.ofString "text" = Str.ofString "new"):=by decide +kernel
 have n8:¬(Str.ofString "text" = Str.ofString "family"):=by decide +kernel
 have n9:¬(Str.ofString "text" = Str.ofString "name"):=by decide +kernel
 have n10:¬(Str.ofString "text" = Str.ofString "set"):=by decide +kernel
 obtain ⟨f1,f2,f3⟩:=qoW lw
 rcases hT with ⟨th,hT,q⟩ | ⟨C,hR,q⟩
 . cases hT with
   | new h =>
     rw [if_pos rfl]
     exact ⟨_,rfl,w,rfl,h,fun H' s'=>q _ _ s' rfl⟩
   | @fam _ fs h =>
     rw [if_neg n1,if_pos rfl]
     exact ⟨dx,_,o1,qdf _ _ (by decide +kernel) (by decide +kernel),_,_,rfl,d,pk,ws,m,w,rfl,D,rfl,fun fs' e p hp=>(by rw [h] at e;cases e;exact q _ _ (qav.refl _) ⟨p,rfl,hp⟩),fun e=>(by rw [h] at e;cases e)⟩
   | name h =>
     rw [if_neg n2,if_neg n3,if_pos rfl]
     exact ⟨cD,dx,_,o1,Z.cl,Z.nw,_,qfT _ _,_,_,rfl,pw,ws,w,rfl,o2,h8,rfl,fun _=>q _ _ (qav.refl _) rfl,fun hn=>absurd h hn⟩
   | @set a h =>
     rw [if_neg n4,if_neg n5,if_neg n6,if_pos rfl]
     exact ⟨cD,dx,_,o1,Z.cl,Z.nw,_,qfT _ _,_,_,rfl,pw,ws,_,rfl,o2,hw,rfl,by omega,f2,fun a' e H' s'=>(by rw [Tx.rS_sT hw h] at e;cases e;exact q _ _ s' rfl),fun e=>(by rw [Tx.rS_sT hw h] at e;cases e)⟩
   | @text fs h =>
     rw [if_neg n7,if_neg n8,if_neg n9,if_neg n10]
     exact ⟨cD,dx,_,o1,Z.cl,Z.nw,_,qfT _ _,_,_,rfl,pw,ws,_,rfl,o2,hw,rfl,by omega,f1,f3,fun fs' e p' H' hp' s' a'=>(by rw [Tx.rF_fT hw h.lt h.rise h.few] at e;cases e;exact q _ _ s' ⟨p',rfl,a'⟩),fun e=>(by rw [Tx.rF_fT hw h.lt h.rise h.few] at e;cases e)⟩
 . cases hR with
   | fam h =>
     rw [if_neg n1,if_pos rfl]
     exact ⟨dx,_,o1,qdf _ _ (by decide +kernel) (by decide +kernel),_,_,rfl,d,pk,ws,m,w,rfl,D,rfl,fun fs' e p hp=>(by rw [h] at e;cases e),fun _=>q _ (qav.refl _)⟩
   | text h hl =>
     rw [if_neg n7,if_neg n8,if_neg n9,if_neg n10]
     exact ⟨cD,dx,_,o1,Z.cl,Z.nw,_,qfT _ _,_,_,rfl,pw,ws,_,rfl,o2,hw,rfl,by omega,f1,f3,fun fs' e=>(by rw [h] at e;cases e),fun _ H' s'=>q _ s'⟩
abbrev qfI:Stmt:=top 81
def qlw:qai ["many", "deed", "things"] ["many", "deed", "things"] (qab qfI):=fsc
inductive MkR (n:Nat):Str->List Th->List Nat->Prop
 | let {fs:List Nat}:MkR n "let" [.fm fs] fs
 | hits {fs:List Nat}:Fml n fs->MkR n "hits" [.fm fs] (Fam.hits n fs)
 | rests {fs:List Nat}:Fml n fs->MkR n "rests" [.fm fs] (Fam.rsts n fs)
 | either {fs gs:List Nat}:Fml n fs->Fml n gs->MkR n "either" [.fm fs,.fm gs] (qox fs gs)
 | both {fs gs:List Nat}:Fml n fs->Fml n gs->MkR n "both" [.fm fs,.fm gs] (bo fs gs)
 | inn {fs:List Nat} {k:Nat}:Fml n fs->k<n->MkR n "in" [.fm fs,.nu k] (inn fs k)
 | out {fs:List Nat} {k:Nat}:Fml n fs->k<n->MkR n "out" [.fm fs,.nu k] (Fam.outs (Fam.mins (sd fs)) k)
def qtm {n:Nat} {fs:List Nat} (h:Fml n fs) (hn:n<=5):fs.length<=32:=ycf (Fam.nodup_le _ _ (h.rise.imp ydh) h.lt) (yaf (n:=2) (by decide) hn)
def qly (K:W.Frag):Sp:=sp3 fun x y z H Q=>∃(n:Nat) (deed:Str) (p:Addr) (vs:List V) (ths:List Th) (gs:List Nat),x = .int (n:Nat)/\n<=5/\y = .str deed/\z = .ref p/\H p=some (.lst vs)/\qgQ H ths vs/\MkR n deed ths gs/\∀p' H',qav H H'->H' p'=some (.lst (nV gs))->Q (.ref p') H'
def qpo {f:Addr} {fd:FuncData} (F:Fun K "made" "made" qfI f fd) (T:Txt mg) {f_20:Addr} {fd_20:FuncData} (C_20:Cal P w K mg base "always_out" 4 ["family", "k"] (qoI K) f_20 fd_20) {f_62:Addr} {fd_62:FuncData} (C_62:Cal P w K mg base "hits" 3 ["many", "family"] (qkJ K) f_62 fd_62) {f_57:Addr} {fd_57:FuncData} (C_57:Cal P w K mg base "rests" 2 ["many", "family"] (qhT K) f_57 fd_57) {f_50:Addr} {fd_50:FuncData} (C_50:Cal P w K mg base "either" 4 ["one", "other"] (qgD K) f_50 fd_50) {f_63:Addr} {fd_63:FuncData} (C_63:Cal P w K mg base "both" 4 ["one", "other"] (qjL K) f_63 fd_63) {f_27:Addr} {fd_27:FuncData} (C_27:Cal P w K mg base "always_in" 4 ["family", "k"] (qr4 K) f_27 fd_27):qaN P w K mg base CX0 5 f fd ["many", "deed", "things"] (qly K):=by
 have sc:=qlw
 refine F.ok qlw (fun vs H Q E h=>by obtain ⟨_,_,_,rfl,_⟩:=h;rfl) (fun cdv A outer s H vs Q E hr h=>?_)
 obtain ⟨x0,x1,x2,rfl,h⟩:=h
 refine ⟨_,(qac (qaF (qam (qaD (K:=K) rfl hr.units0) (pv 1) qak (qaq _)) (qae (qal (qbf (qc0 (K:=K) rfl) (pv 2) qaf (fun _ _=>rfl)))) qan)
   (qac (qaF (qam (qaD (K:=K) rfl hr.units0) (pv 1) qak (qaq _)) (qae (qal (pec C_62 hr (qaa (pv 0) (qaa (qbf (qc0 (K:=K) rfl) (pv 2) qaf (fun _ _=>rfl)) qad))))) qan)
   (qac (qaF (qam (qaD (K:=K) rfl hr.units0) (pv 1) qak (qaq _)) (qae (qal (pec C_57 hr (qaa (pv 0) (qaa (qbf (qc0 (K:=K) rfl) (pv 2) qaf (fun _ _=>rfl)) qad))))) qan)
   (qac (qaF (qam (qaD (K:=K) rfl hr.units0) (pv 1) qak (qaq _)) (qae (qal (pec C_50 hr (qaa (qbf (qc0 (K:=K) rfl) (pv 2) qaf (fun _ _=>rfl)) (qaa (qbf (qc0 (K:=K) rfl) (pv 2) qaf (fun _ _=>rfl)) qad))))) qan)
   (qac (qaF (qam (qaD (K:=K) rfl hr.units0) (pv 1) qak (qaq _)) (qae (qal (pec C_63 hr (qaa (qbf (qc0 (K:=K) rfl) (pv 2) qaf (fun _ _=>rfl)) (qaa (qbf (qc0 (K:=K) rfl) (pv 2) qaf (fun _ _=>rfl)) qad))))) qan)
   (qac (qaF (qam (qaD (K:=K) rfl hr.units0) (pv 1) qak (qaq _)) (qae (qal (pec C_27 hr (qaa (qbf (qc0 (K:=K) rfl) (pv 2) qaf (fun _ _=>rfl)) (qaa (qbf (qc0 (K:=K) rfl) (pv 2) qaf (fun _ _=>rfl)) qad))))) qan)
   (qae (qal (pec C_20 hr (qaa (qbf (qc0 (K:=K) rfl) (pv 2) qaf (fun _ _=>rfl)) (qaa (qbf (qc0 (K:=K) rfl) (pv 2) qaf (fun _ _=>rfl)) qad))))))))))),?_⟩
 refine rdg (σ':=[some x0,some x1,some x2]) rfl ?_
 obtain ⟨n,deed,p,vs,ths,gs,rfl,hn,rfl,rfl,f1,hv,hM,q⟩:=h
 walk_at "rd"
 have n_hits_let:¬(Str.ofString "hits" = Str.ofString "let"):=by decide +kernel
 have n_rests_let:¬(Str.ofString "rests" = Str.ofString "let"):=by decide +kernel
 have n_either_let:¬(Str.ofString "either" = Str.ofString "let"):=by decide +kernel
 have n_both_let:¬(Str.ofString "both" = Str.ofString "let"):=by decide +kernel
 have n_in_let:¬(Str.ofString "in" = Str.ofString "let"):=by decide +kernel
 have n_out_let:¬(Str.ofString "out" = Str.ofString "let"):=by decide +kernel
 have n_rests_hits:¬(Str.ofString "rests" = Str.ofString "hits"):=by decide +kernel
 have n_either_hits:¬(Str.ofString "either" = Str.ofString "hits"):=by decide +kernel
 have n_both_hits:¬(Str.ofString "both" = Str.ofString "hits"):=by decide +kernel
 have n_in_hits:¬(Str.ofString "in" = Str.ofString "hits"):=by decide +kernel
 have n_out_hits:¬(Str.ofString "out" = Str.ofString "hits"):=by decide +kernel
 have n_either_rests:¬(Str.ofString "either" = Str.ofString "rests"):=by decide +kernel
 have n_both_rests:¬(Str.ofString "both" = Str.ofString "rests"):=by decide +kernel
 have n_in_rests:¬(Str.ofString "in" = Str.ofString "rests"):=by decide +kernel
 have n_out_rests:¬(Str.ofString "out" = Str.ofString "rests"):=by decide +kernel
 have n_both_either:¬(Str.ofString "both" = Str.ofString "either"):=by decide +kernel
 have n_in_either:¬(Str.ofString "in" = Str.ofString "either"):=by decide +kernel
 have n_out_either:¬(Str.ofString "out" = Str.ofString "either"):=by decide +kernel
 have n_in_both:¬(Str.ofString "in" = Str.ofString "both"):=by decide +kernel
 have n_out_both:¬(Str.ofString "out" = Str.ofString "both"):=by decide +kernel
 have n_out_in:¬(Str.ofString "out" = Str.ofString "in"):=by decide +kernel
 have le:∀{b:Nat},b<2^n->b<2^5:=fun h=>yae h (yaf (by decide) hn)
 have h8:n<=8:=by omega
 cases hM with
 | «let» =>
   obtain ⟨v0,us,rfl,⟨p0,rfl,b0⟩,hu⟩:=hv.cons
   obtain rfl:=hu.empty
   rw [if_pos rfl]
   exact qbC (SqL.of f1) rfl (q _ _ (qav.refl _) b0)
 | hits h =>
   obtain ⟨v0,us,rfl,⟨p0,rfl,b0⟩,hu⟩:=hv.cons
   obtain rfl:=hu.empty
   rw [if_neg n_hits_let,if_pos rfl]
   refine qbC (SqL.of f1) rfl ⟨_,_,rfl,n,p0,_,rfl,h8,rfl,b0,fun H' p' hp' s' a'=>q _ _ s' a'⟩
 | rests h =>
   obtain ⟨v0,us,rfl,⟨p0,rfl,b0⟩,hu⟩:=hv.cons
   obtain rfl:=hu.empty
   rw [if_neg n_rests_let,if_neg n_rests_hits,if_pos rfl]
   refine qbC (SqL.of f1) rfl ⟨_,_,rfl,n,p0,_,rfl,h8,rfl,SqL.of b0,h.rise,h.lt,by have:=qtm h hn;omega,fun H' p' hp' s' a'=>q _ _ s' a'⟩
 | either h1 h2 =>
   obtain ⟨v0,us,rfl,⟨p0,rfl,b0⟩,hu⟩:=hv.cons
   obtain ⟨v1,us',rfl,⟨p1,rfl,b1⟩,hu'⟩:=hu.cons
   obtain rfl:=hu'.empty
   rw [if_neg n_either_let,if_neg n_either_hits,if_neg n_either_rests,if_pos rfl]
   refine qbC (SqL.of f1) rfl (qbC (SqL.of f1) rfl ⟨_,_,rfl,p0,p1,_,_,rfl,SqL.of b0,rfl,SqL.of b1,by have:=h1.few;have:=h2.few;omega,fun b hb=>le (h1.lt b hb),fun b hb=>le (h2.lt b hb),fun H' p' hp' s' a'=>q _ _ s' a'⟩)
 | both h1 h2 =>
   obtain ⟨v0,us,rfl,⟨p0,rfl,b0⟩,hu⟩:=hv.cons
   obtain ⟨v1,us',rfl,⟨p1,rfl,b1⟩,hu'⟩:=hu.cons
   obtain rfl:=hu'.empty
   rw [if_neg n_both_let,if_neg n_both_hits,if_neg n_both_rests,if_neg n_both_either,if_pos rfl]
   refine qbC (SqL.of f1) rfl (qbC (SqL.of f1) rfl ⟨_,_,rfl,p0,p1,_,_,rfl,b0,rfl,b1,h1.few,h2.few,fun b hb=>le (h1.lt b hb),fun b hb=>le (h2.lt b hb),fun H' p' hp' s' a'=>q _ _ s' a'⟩)
 | inn h hk =>
   obtain ⟨v0,us,rfl,⟨p0,rfl,b0⟩,hu⟩:=hv.cons
   obtain ⟨v1,us',rfl,e1,hu'⟩:=hu.cons
   obtain rfl:=hu'.empty
   cases e1
   rw [if_neg n_in_let,if_neg n_in_hits,if_neg n_in_rests,if_neg n_in_either,if_neg n_in_both,if_pos rfl]
   refine qbC (SqL.of f1) rfl (qbC (SqL.of f1) rfl ⟨_,_,rfl,p0,_,_,rfl,SqL.of b0,rfl,by omega,by have:=h.few;omega,fun b hb=>le (h.lt b hb),fun H' p' hp' s' a'=>q _ _ s' a'⟩)
 | out h hk =>
   obtain ⟨v0,us,rfl,⟨p0,rfl,b0⟩,hu⟩:=hv.cons
   obtain ⟨v1,us',rfl,e1,hu'⟩:=hu.cons
   obtain rfl:=hu'.empty
   cases e1
   rw [if_neg n_out_let,if_neg n_out_hits,if_neg n_out_rests,if_neg n_out_either,if_neg n_out_both,if_neg n_out_in]
   refine qbC (SqL.of f1) rfl (qbC (SqL.of f1) rfl ⟨_,_,rfl,p0,_,_,rfl,SqL.of b0,rfl,by omega,by have:=h.few;omega,fun b hb=>le (h.lt b hb),fun H' p' hp' s' a'=>q _ _ s' a'⟩)
abbrev qbU:Stmt:=top 82
def qfo:qai ["words", "deed", "things", "many", "family"] ["words", "deed", "things"] (qab qbU):=fsc
inductive Ask (ws:List Str):Str->List Th->(Str->Prop)->Prop
 | turns {fs:List Nat}:Fml ws.length fs->Ask ws "turns" [.fm fs] (fun t=>t=qsS (Fam.trns ws.length (Fam.sayP fs)))
def qmC {m:Nat} (hm:m<=8) (f:Nat->Bool):∀n∈Fam.trns m f,n<=256:=fun n hn=>by
 obtain ⟨k,hk,rfl⟩:=ybq.mp hn
 unfold Fam.trn
 exact ycf (yfn _ _) (by rw [ygx];exact yaf (n:=2) (by decide) hm)
def qdY (K:W.Frag):Sp:=sp3 fun x y z H Q=>∃(p:Addr) (ws:List Str) (deed:Str) (pt:Addr) (vs:List V) (ths:List Th) (T:Str->Prop),x = .ref p/\H p=some (.lst (sV ws))/\Tx.Wds ws/\y = .str deed/\z = .ref pt/\H pt=some (.lst vs)/\qgQ H ths vs/\Ask ws deed ths T/\∀t H',T t->qav H H'->Q (.str t) H'
def qis {f:Addr} {fd:FuncData} (F:Fun K "answered" "answered" qbU f fd) (T:Txt mg) {f_12:Addr} {fd_12:FuncData} (C_12:Cal P w K mg base "show_weights" 1 ["words", "told"] qbs f_12 fd_12) {f_13:Addr} {fd_13:FuncData} (C_13:Cal P w K mg base "show_family" 1 ["words", "family"] qbs f_13 fd_13) {f_16:Addr} {fd_16:FuncData} (C_16:Cal P w K mg base "show_looked" 1 ["words", "told"] qbs f_16 fd_16) {f_01:Addr} {fd_01:FuncData} (C_01:Cal P w K mg base "show_word_and_sets" 1 ["words", "told"] qbs f_01 fd_01) {f_11:Addr} {fd_11:FuncData} (C_11:Cal P w K mg base "show_numbers" 1 ["numbers"] (qeH K) f_11 fd_11) {f_22:Addr} {fd_22:FuncData} (C_22:Cal P w K mg base "show_ranks" 1 ["words", "told"] qbs f_22 fd_22) {f_23:Addr} {fd_23:FuncData} (C_23:Cal P w K mg base "by_weights" 1 ["many", "family"] qbs f_23 fd_23) {f_61:Addr} {fd_61:FuncData} (C_61:Cal P w K mg base "says" 2 ["family", "one"] (qf0 K) f_61 fd_61) {f_51:Addr} {fd_51:FuncData} (C_51:Cal P w K mg base "looked" 1 ["family", "one"] qbs f_51 fd_51) {f_64:Addr} {fd_64:FuncData} (C_64:Cal P w K mg base "held" 1 ["many", "one", "other"] qbs f_64 fd_64) {f_03:Addr} {fd_03:FuncData} (C_03:Cal P w K mg base "compared_unlike" 1 ["many", "family", "x", "y"] qbs f_03 fd_03) {f_58:Addr} {fd_58:FuncData} (C_58:Cal P w K mg base "turns" 4 ["many", "family"] (qik K) f_58 fd_58) {f_59:Addr} {fd_59:FuncData} (C_59:Cal P w K mg base "ranks" 1 ["many", "family"] qbs f_59 fd_59):qaN P w K mg base CX0 5 f fd ["words", "deed", "things"] (qdY K):=by
 have sc:=qfo
 refine F.ok qfo (fun vs H Q E h=>by obtain ⟨_,_,_,rfl,_⟩:=h;rfl) (fun cdv A outer s H vs Q E hr h=>?_)
 obtain ⟨x0,x1,x2,rfl,h⟩:=h
 refine ⟨_,(qac (qay (i:=3) sc.nd rfl (Or.inl rfl) (qat (qaL (K:=K) rfl) (by rfl) T.n_len PySem.boot_len (qaa (pv 0) qad)))
   (qac (qay (i:=4) sc.nd rfl (Or.inl rfl) (qbf (qc0 (K:=K) rfl) (pv 2) qaf (fun _ _=>rfl)))
   (qac (qaF (qam (qaD (K:=K) rfl hr.units0) (pv 1) qak (qaq _)) (qae (qal (pec C_13 hr (qaa (pv 0) (qaa (pv 4) qad))))) qan)
   (qac (qaF (qam (qaD (K:=K) rfl hr.units0) (pv 1) qak (qaq _)) (qae (qal (qi2 (qbw (pec C_61 hr (qaa (pv 4) (qaa (qbf (qc0 (K:=K) rfl) (pv 2) qaf (fun _ _=>rfl)) qad)))) qak qak))) qan)
   (qac (qaF (qam (qaD (K:=K) rfl hr.units0) (pv 1) qak (qaq _)) (qae (qal (pec C_16 hr (qaa (pv 0) (qaa (pec C_51 hr (qaa (pv 4) (qaa (qbf (qc0 (K:=K) rfl) (pv 2) qaf (fun _ _=>rfl)) qad))) qad))))) qan)
   (qac (qaF (qam (qaD (K:=K) rfl hr.units0) (pv 1) qak (qaq _)) (qae (qal (pec C_01 hr (qaa (pv 0) (qaa (pec C_64 hr (qaa (pv 3) (qaa (pv 4) (qaa (qbf (qc0 (K:=K) rfl) (pv 2) qaf (fun _ _=>rfl)) qad)))) qad))))) qan)
   (qac (qaF (qam (qaD (K:=K) rfl hr.units0) (pv 1) qak (qaq _)) (qae (qal (pec C_01 hr (qaa (pv 0) (qaa (pec C_03 hr (qaa (pv 3) (qaa (pv 4) (qaa (qbf (qc0 (K:=K) rfl) (pv 2) qaf (fun _ _=>rfl)) (qaa (qbf (qc0 (K:=K) rfl) (pv 2) qaf (fun _ _=>rfl)) qad))))) qad))))) qan)
   (qac (qaF (qam (qaD (K:=K) rfl hr.units0) (pv 1) qak (qaq _)) (qae (qal (pec C_11 hr (qaa (pec C_58 hr (qaa (pv 3) (qaa (pv 4) qad))) qad)))) qan)
   (qac (qaF (qam (qaD (K:=K) rfl hr.units0) (pv 1) qak (qaq _)) (qae (qal (pec C_22 hr (qaa (pv 0) (qaa (pec C_59 hr (qaa (pv 3) (qaa (pv 4) qad))) qad))))) qan)
   (qae (qal (pec C_12 hr (qaa (pv 0) (qaa (pec C_23 hr (qaa (pv 3) (qaa (pv 4) qad))) qad)))))))))))))),?_⟩
 refine rdg (σ':=[some x0,some x1,some x2,none,none]) rfl ?_
 obtain ⟨p,ws,deed,pt,vs,ths,T,rfl,f1,hw,rfl,rfl,f2,hv,hA,q⟩:=h
 have h8:=hw.few
 walk_at "rd"
 refine ⟨_,.inl (SqL.of f1),?_⟩
 rw [qbv]
 cases hA with
 | @turns fs h =>
   obtain ⟨v0,us,rfl,⟨p0,rfl,b0⟩,hu⟩:=hv.cons
   obtain rfl:=hu.empty
   refine qbC (SqL.of f2) rfl ?_
   have n_show:¬(Str.ofString "turns" = Str.ofString "show"):=by decide +kernel
   have n_says:¬(Str.ofString "turns" = Str.ofString "says"):=by decide +kernel
   have n_look:¬(Str.ofString "turns" = Str.ofString "look"):=by decide +kernel
   have n_held:¬(Str.ofString "turns" = Str.ofString "held"):=by decide +kernel
   have n_compare:¬(Str.ofString "turns" = Str.ofString "compare"):=by decide +kernel
   rw [if_neg n_show,if_neg n_says,if_neg n_look,if_neg n_held,if_neg n_compare,if_pos rfl]
   refine ⟨_,_,rfl,_,p0,_,rfl,h8,rfl,b0,fun H1 p1 hp1 s1 a1=>⟨_,rfl,p1,_,rfl,a1,?_,qmC h8 _,fun H2 s2=>q _ _ rfl (s1.trans s2)⟩⟩
   unfold Fam.trns
   rw [ybz,ygx]
   omega
abbrev qbQ:Stmt:=qey (top 78) 1
def qeN:qai ["self", "row", "parts", "deed", "things"] ["self", "row"] (qab qbQ):=fsc
def qnb {c:TT} {t u:TS} {D:qe7} {σ:L2.St} {H:Hp}:qiX (qpT c t qjl) u D σ H↔c σ H fun b H1=>if b=true then t { D with nx:=u D } σ H1 else u D σ H1:=Iff.rfl
def qfO {α:Type} {k:Str} {v:α}:∀{l:List (Str×α)},l.lookup k=some v->(k,v)∈l
 | [],h=>by cases h
 | (y,u)::l,h=>by
   rw [yfd] at h
   by_cases e:k=y
   . subst e
     simp at h
     subst h
     exact ybb
   . rw [beq_eq_false_iff_ne.mpr e] at h
     exact ybe _ (qfO h)
def qjh {d:Str} {ks:List Str} (h:wanted d=some ks):ks.length<=20:=by
 have:∀p∈qif,p.2.length<=20:=by decide +kernel
 exact this (d,ks) (qfO h)
/-- what becomes of a row -/
inductive Res
 | put (n:Str) (gs:List Nat)
 | ans
 | tx
 | fy
 | fl
def qmw (ws:List Str) (m:List (Str×List Nat)) (z:Str) (o:Res):Prop:=∃(deed:Str) (r ks:List Str) (ths:List Th),Prt z deed r ks/\(∀w∈r,w.length<=900)/\(∀(i:Nat) (k w:Str) (th:Th),ks[i]?=some k->r[i]?=some w->ths[i]?=some th->Thg ws m k w th)/\match o with
 | .put n gs=>ths.length=ks.length/\ks[0]?=some ("new" : Str)/\(∃qbM,ths = .nm n::qbM/\MkR ws.length deed qbM gs)/\Fml ws.length gs/\(m.lookup n≠none\/m.length<20)
 | .fl=>ths.length=ks.length/\ks[0]?=some ("new" : Str)/\∃n qbM,ths = .nm n::qbM/\m.lookup n=none/\20<=m.length
 | .ans=>ths.length=ks.length/\deed = "turns" /\ ks[0]?=some ("family" : Str)/\∃fs,ths=[.fm fs]/\Fml ws.length fs
 | .tx=>∃w:Str,ks[ths.length]?=some ("text" : Str)/\r[ths.length]?=some w/\Tx.rF ws w=none/\w.length<=100
 | .fy=>∃w:Str,ks[ths.length]?=some ("family" : Str)/\r[ths.length]?=some w/\m.lookup w=none
def qnc (cD cX cN cF:Addr):Sp:=qpX fun x y H Q E=>∃(d pk:Addr) (ws:List Str) (m:List (Str×List Nat)) (z:Str) (o:Res),x = .ref d/\qcY cD H d pk ws m/\ws.length<=5/\y = .str z/\qmw ws m z o/\match o with
 | .put n gs=>∀H',SmB pk H H'->qcY cD H' d pk ws (qlP m n gs)->Q (.str "ok") H'
 | .ans=>∀t H',qav H H'->Q (.str t) H'
 | .tx=>∀H',qav H H'->E (.ref cX) none H'
 | .fy=>∀H',qav H H'->E (.ref cN) none H'
 | .fl=>∀H',qav H H'->E (.ref cF) none H'
def qh1 {f:Addr} {fd:FuncData} (F:Fun K "say" "Desk.say" qbQ f fd) (T:Txt mg) {cD aW cX cN cF cH cO cM:Addr} (Z:Xt P w K mg cD aW cX cN cF cH cO cM) {f_41:Addr} {fd_41:FuncData} (C_41:Cal P w K mg base "parts_of" 1 ["row"] (qeM K) f_41 fd_41) {f_42:Addr} {fd_42:FuncData} (C_42:Cal P w K mg base "answered" 5 ["words", "deed", "things"] (qdY K) f_42 fd_42) {f_09:Addr} {fd_09:FuncData} (C_09:qlN P w K mg base cD "thing_of" 5 ["self", "kind", "word"] (qip cD cX cN) f_09 fd_09) {f_02:Addr} {fd_02:FuncData} (C_02:qlN P w K mg base cD "look_for_room" 1 ["self", "name"] (qlx cD cF) f_02 fd_02) {f_65:Addr} {fd_65:FuncData} (C_65:Cal P w K mg base "made" 5 ["many", "deed", "things"] (qly K) f_65 fd_65):qaN P w K mg base (CX1 P w) 6 f fd ["self", "row"] (qnc cD cX cN cF):=by
 have sc:=qeN
 refine F.okX qeN (fun vs H Q E h=>by obtain ⟨_,_,rfl,_⟩:=h;rfl) (fun cdv A outer s H vs Q E hr h=>?_)
 obtain ⟨x0,x1,rfl,h⟩:=h
 refine ⟨_,(qac (qay (i:=2) sc.nd rfl (Or.inl rfl) (pec C_41 hr (qaa (pv 1) qad)))
   (qac (qay (i:=3) sc.nd rfl (Or.inl rfl) (qbf (qc0 (K:=K) rfl) (pv 2) qaf (fun _ _=>rfl)))
   (qac (qgu (i:=4) sc.nd rfl rfl (by rfl) (N:=["kind", "word", "self"]) (nt:=2) (caps:=[0]) qaT rfl (qoB (K:=K) rfl (by rfl) T.n_zip (qaa (qh9 (P:=P) (w:=w) (K:=K) rfl rfl rfl (qb5 (v := .ref aW) (by rfl) Z.gW rfl) (pv 3) (fun _ _=>rfl)) (qaa (qcQ (qrC (K:=K) rfl) (pv 2) (qdd qaf) qfe) qad))) (fun _ _ _ _ _=>(qqR (n:=2) rfl (qiH (qaw (i:=0) (show List.Nodup (α:=Str) ["kind", "word", "self"] from by decide +kernel) rfl (Or.inl rfl)) (qiH (qaw (i:=1) (show List.Nodup (α:=Str) ["kind", "word", "self"] from by decide +kernel) rfl (Or.inl rfl)) qoo)))) qqg (fun _ _ _ _ _=>qbi) (fun _ _ _ _ _ _ _ tk=>(qeU (pv 2) Z.cl C_09 hr (by decide) tk.passes (qaa (pv 0) (qaa (pv 1) qad)))) qgP rfl rfl)
   (qac (qaF (qam (qaD (K:=K) rfl hr.units0) (qbf (qc0 (K:=K) rfl) (qh9 (P:=P) (w:=w) (K:=K) rfl rfl rfl (qb5 (v := .ref aW) (by rfl) Z.gW rfl) (pv 3) (fun _ _=>rfl)) qaf (fun _ _=>rfl)) qak (qaq _)) (qac (qdG (qeU (pv 0) Z.cl C_02 hr (by decide) qff (qaa (qbf (qc0 (K:=K) rfl) (pv 4) qaf (fun _ _=>rfl)) qad)))
   (qac (qob (qmm hr) (qc6 (pv 0) rfl) (qbf (qc0 (K:=K) rfl) (pv 4) qaf (fun _ _=>rfl)) (pec C_65 hr (qaa (qat (qaL (K:=K) rfl) (by rfl) T.n_len PySem.boot_len (qaa (qc6 (pv 0) rfl) qad)) (qaa (pv 3) (qaa (qcQ (qrC (K:=K) rfl) (pv 4) (qdd qaf) qfe) qad)))) rfl)
   (qae (qal qak)))) qan)
   (qae (qal (pec C_42 hr (qaa (qc6 (pv 0) rfl) (qaa (pv 3) (qaa (pv 4) qad)))))))))),?_⟩
 refine rdg (σ':=[some x0,some x1,none,none,none]) rfl ?_
 obtain ⟨d,pk,ws,m,z,o,rfl,D,h5,rfl,⟨deed,r,ks,ths,hP,hL,hT,ho⟩,h⟩:=h
 obtain ⟨dx,pw,o1,o2⟩:=D.ob
 obtain ⟨kvs,kd1,kd2⟩:=Z.wn.kv
 obtain ⟨tw,vt,ht⟩:=kd2 deed ks hP.kd
 have lN:=hP.ln
 have l20:ks.length<=20:=qjh hP.kd
 have hj:∀{i:Nat} {k:Str},ks[i]?=some k->i<ks.length:=fun e=>(ycd.mp e).1
 walk_at "rd"
 refine ⟨_,rfl,z,deed,r,ks,rfl,hP,fun p1 H1 hp1 s1 a1=>?_⟩
 refine qbC (SqL.of a1) (qf7 (i:=0) rfl) ⟨kvs,Sum.inr deed,rfl,kd1,_,vt,p1,_,rfl,SqL.of a1,fun p2 hp2=>?_⟩
 rw [show (1:Int)=((1:Nat):Int) from rfl,qiU,show (sV (deed::r)).drop 1=sV r from rfl]
 generalize g2:upd H1 p2 _=G2
 have a2:=qax g2
 have s2:=s1.trans (qau g2 hp2)
 refine ⟨tw,p2,⟨rfl,rfl⟩,_,ht G2,_,SqL.of a2,qqy (xs:=sV ks) (ys:=sV r) (by rw [qbv,qbv,lN]) (fun i zs H3=>qav G2 H3/\i<=ths.length/\qgQ H3 (ths.take i) zs) ⟨qav.refl _,ych _,qgQ.nil⟩ (ycf (by rw [qbv];omega) (show 100000<=sizeLine by decide)) (fun i zs H3 hi h=>⟨ht _,SqL.of (h.1 _ _ a2),by rw [<-h.2.2.1,yem];omega⟩) (fun i x y zs H3 t hx hy h' hn3 R R' r1 r2=>?_) fun zs H3 h' p3 hp3=>?_⟩
 . obtain ⟨s3,hi,hv⟩:=h'
   rw [ydr] at hx hy
   cases ek:ks[i]? with
   | none=>rw [ek] at hx;cases hx
   | some k =>
   cases ew:r[i]? with
   | none=>rw [ew] at hy;cases hy
   | some w =>
   rw [ek] at hx
   rw [ew] at hy
   cases hx
   cases hy
   have s4:=qav.new (o := .tup [.str k,.str w]) hn3
   have D4:=((D.same s2).same s3).same s4
   have lw:=hL w (ybv ew)
   obtain ⟨dx4,pw4,o4,_⟩:=D4.ob
   (try walk_at "rd")
   refine ⟨_,SqT.of qaj,rfl,_,_,rfl,_,_,rfl,rfl,dx4,_,o4,qdf _ _ (by decide +kernel) (by decide +kernel),_,_,_,rfl,d,pk,ws,m,k,w,rfl,D4,rfl,rfl,lw,?_⟩
   by_cases hlt:i<ths.length
   . have et:ths[i]?=some ths[i]:=ybu hlt
     refine .inl ⟨_,hT i k w _ ek ew et,fun v H5 s5 hv5=>r1 v H5 ⟨(s3.trans s4).trans s5,hlt,?_⟩⟩
     rw [yfv,et]
     exact ((hv.same s4).same s5).snoc hv5
   obtain rfl:i=ths.length:=by omega
   have hk:=hj ek
   have sA:=(s2.trans s3).trans s4
   cases o with
   | put n gs=>exact absurd ho.1 (by omega)
   | fl=>exact absurd ho.1 (by omega)
   | ans=>exact absurd ho.1 (by omega)
   | tx =>
     obtain ⟨w',e1,e2,e3,e4⟩:=ho
     rw [ek] at e1
     rw [ew] at e2
     cases e1
     cases e2
     exact .inr ⟨cX,.text e3 e4,fun H5 s5=>h H5 (sA.trans s5)⟩
   | fy =>
     obtain ⟨w',e1,e2,e3⟩:=ho
     rw [ek] at e1
     rw [ew] at e2
     cases e1
     cases e2
     exact .inr ⟨cN,.fam e3,fun H5 s5=>h H5 (sA.trans s5)⟩
 obtain ⟨s3,hi,hv⟩:=h'
 rw [qbv] at hi hv
 generalize g3:upd H3 p3 _=G3
 have a3:=qax g3
 have t3:=qau g3 hp3
 have s3:=(s2.trans s3).trans t3
 have hv:=hv.same t3
 have D3:=D.same s3
 clear g3 a1 a2 s1 g2 s2
 refine qnb.mpr ?_
 walk_at "rd"
 have full:∀(lT:ths.length=ks.length),qgQ G3 ths zs:=fun lT=>by
   rw [<-lT,yco] at hv
   exact hv
 obtain ⟨dx3,pw3,o3,w3⟩:=D3.ob
 cases o with
 | tx =>
   obtain ⟨w',e1,_⟩:=ho
   have:=hj e1
   omega
 | fy =>
   obtain ⟨w',e1,_⟩:=ho
   have:=hj e1
   omega
 | ans =>
   obtain ⟨lT,rfl,k0,fs,rfl,hF⟩:=ho
   refine ⟨kvs,Sum.inr _,rfl,kd1,_,vt,qpd (ht _) (qf7 (i:=0) k0) ⟨_,.inl ⟨rfl,rfl⟩,⟨false,congrArg V.bl (decide_eq_false fun e=>absurd (V.str.inj e) (by decide +kernel)),qgJ ?_⟩⟩⟩
   exact ⟨cD,dx3,_,o3,Z.cl,Z.nw,_,qfT _ _,_,_,_,rfl,pw3,ws,_,p3,zs,[.fm fs],_,rfl,w3,D.wd,rfl,rfl,a3,full lT,.turns hF,fun t H4 ht s4=>h t _ (s3.trans s4)⟩
 | fl =>
   obtain ⟨lT,k0,n,qbM,rfl,e1,e2⟩:=ho
   have hv:=full lT
   refine ⟨kvs,Sum.inr deed,rfl,kd1,_,vt,qpd (ht _) (qf7 (i:=0) k0) ⟨_,.inl ⟨rfl,rfl⟩,⟨true,congrArg V.bl (decide_eq_true rfl),qjF ?_⟩⟩⟩
   obtain ⟨v0,us,rfl,rfl,hu⟩:=hv.cons
   exact ⟨dx3,_,o3,qdf _ _ (by decide +kernel) (by decide +kernel),qbC (SqL.of a3) (qdP (j:=0) rfl) ⟨_,_,rfl,d,pk,ws,m,n,rfl,D3,rfl,fun hh=>absurd hh (by rw [e1];simp;omega),fun _ _=>h _ s3⟩⟩
 | put n gs =>
   obtain ⟨lT,k0,⟨qbM,rfl,hM⟩,hF,hm⟩:=ho
   have hv:=full lT
   refine ⟨kvs,Sum.inr deed,rfl,kd1,_,vt,qpd (ht _) (qf7 (i:=0) k0) ⟨_,.inl ⟨rfl,rfl⟩,⟨true,congrArg V.bl (decide_eq_true rfl),qjF ?_⟩⟩⟩
   obtain ⟨v0,us,rfl,rfl,hu⟩:=hv.cons
   refine ⟨dx3,_,o3,qdf _ _ (by decide +kernel) (by decide +kernel),qbC (SqL.of a3) (qdP (j:=0) rfl) ⟨_,_,rfl,d,pk,ws,m,n,rfl,D3,rfl,fun _=>⟨cD,dx3,_,o3,Z.cl,Z.nw,_,qfT _ _,pw3,rfl,_,.inl (SqL.of w3),p3,_,rfl,SqL.of a3,fun p4 hp4=>?_⟩,fun e1 e2=>hm.elim (fun z=>absurd e1 z) (fun z=>by omega)⟩⟩
   rw [qiU,show (V.str n::us).drop 1=us from rfl,qbv]
   generalize g4:upd G3 p4 _=G4
   have a4:=qax g4
   have t4:=qau g4 hp4
   refine ⟨_,_,_,rfl,ws.length,deed,p4,us,qbM,gs,rfl,h5,rfl,rfl,a4,hu.same t4,hM,fun p5 H5 s5 a5=>?_⟩
   have D5:=(D3.same t4).same s5
   obtain ⟨dx5,pw5,o5,w5⟩:=D5.ob
   obtain ⟨kv5,c5,k5⟩:=D5.dc
   refine ⟨cD,dx5,_,o5,Z.cl,Z.nk,_,qfU _ _,qbC (SqL.of (s5 _ _ (t4 _ _ a3))) (qdP (j:=0) rfl) ⟨pk,rfl,_,qpW.k (k:=Sum.inr n) c5 (qgg (by have:=D5.ms;have:=k5.1;omega)),h _ (fun b o e hb=>by rw [qap hb];exact s5 _ _ (t4 _ _ (s3 _ _ e))) ?_⟩⟩
   refine ⟨⟨dx5,pw5,by rw [qap fun e=>by rw [e,c5] at o5;cases o5];exact o5,by rw [qap fun e=>by rw [e,c5] at w5;cases w5];exact w5⟩,⟨_,qaj,(k5.put a5).same fun p fs h=>by rw [qap fun e=>by rw [e,c5] at h;cases h];exact h⟩,D.wd,fun x fs h=>?_,?_⟩
   . rw [qb1] at h
     by_cases e:x=n
     . rw [if_pos e] at h
       cases h
       exact hF
     . rw [if_neg e] at h
       exact D.fm x fs h
   . rw [qb0]
     have:=D.ms
     cases e:m.lookup n with
     | some gs=>simpa using this
     | none =>
       rcases hm with h | h
       . exact absurd e h
       . simp
         omega
abbrev qby:Stmt:=top 91
def qeh:qai ["_law_k"] ["_law_k"] (qab qby):=fsc
def nmT (k:Nat):Str:=⟨(102::List.replicate (1+k/26) (97+k%26)).toArray⟩
def qrP {k:Nat} {r:Str} (h1:∀c∈Tx.sg r,c∈Tx.sg (⟨#[97+k%26]⟩:Str)) (h2:r.length=(1+k/26)*(⟨#[97+k%26]⟩:Str).length):Str.ofString "f" ++ r=nmT k:=by
 refine Tx.ext ?_
 rw [Tx.sg_app]
 have e:Tx.sg r=List.replicate (1+k/26) (97+k%26):=List.eq_replicate_iff.mpr ⟨by rw [Tx.len_sg,h2];show _*1=_;omega,fun c hc=>ydu.mp (h1 c hc)⟩
 rw [e,show Tx.sg (Str.ofString "f")=[102] by decide +kernel]
 simp [nmT,Tx.sg]
def qh4 (K:W.Frag):Sp:=sp1 fun x H Q=>∃k:Nat,x = .int (k:Nat)/\k<=60/\Q (.str (nmT k)) H
def qhK {f:Addr} {fd:FuncData} (F:Fun K "_law_name" "_law_name" qby f fd) (T:Txt mg)  : qaN P w K mg base CX0 1 f fd ["_law_k"] (qh4 K):=by
 have sc:=qeh
 refine F.ok qeh (fun vs H Q E h=>by obtain ⟨_,rfl,_⟩:=h;rfl) (fun cdv A outer s H vs Q E hr h=>?_)
 obtain ⟨x0,rfl,h⟩:=h
 refine ⟨_,(qae (qal (qar qaG qak (qar qkq (qcm qak (qar qbn (pv 0) qaf) (fun _ _=>rfl)) (qar qb9 qaf (qar ql1 (pv 0) qaf)))))),?_⟩
 refine rdg (σ':=[some x0]) rfl ?_
 obtain ⟨k,rfl,hk,q⟩:=h
 walk_at "rd"
 have et:((k:Int)%26).toNat=k%26:=by omega
 have zz:100000<=sizeLine:=by decide
 have l1:(Str.ofString "f").length=1:=by decide +kernel
 refine ⟨by decide,by omega,by omega,by rw [show (Str.ofString "abcdefghijklmnopqrstuvwxyz").length=26 from qf2];omega,_,qiR _ (by omega),⟨by decide,by decide⟩,1+k/26,by omega,by omega,by omega,(by show 1<=100;decide),fun r h1 h2=>?_⟩
 rw [et] at h1
 have h2:r.length=(1+k/26)*1:=h2
 refine ⟨by omega,?_⟩
 rw [qrP (k:=k) h1 h2]
 exact q
abbrev qbI:Stmt:=top 90
def qee:qai ["_law_desk", "_law_row", "_law_found", "error", "_law_some"] ["_law_desk", "_law_row"] (qab qbI):=fsc
def qj7 (cD:Addr):Sp:=sp2 fun x y H Q=>∃(d pk:Addr) (ws:List Str) (m:List (Str×List Nat)) (z:Str) (o:Res),x = .ref d/\qcY cD H d pk ws m/\ws.length<=5/\y = .str z/\qmw ws m z o/\match o with
 | .put n gs=>∀H',SmB pk H H'->qcY cD H' d pk ws (qlP m n gs)->Q (.str "ok") H'
 | .ans=>∀H',qav H H'->Q (.str "ok") H'
 | .tx=>∀H',qav H H'->Q (.str "text") H'
 | .fy=>∀H',qav H H'->Q (.str "family") H'
 | .fl=>∀H',qav H H'->Q (.str "full") H'
def qhB {f:Addr} {fd:FuncData} (F:Fun K "_law_kind" "_law_kind" qbI f fd) (T:Txt mg) {cD aW cX cN cF cH cO cM:Addr} (Z:Xt P w K mg cD aW cX cN cF cH cO cM) {f_43:Addr} {fd_43:FuncData} (C_43:qlN P w K mg base cD "say" 6 ["self", "row"] (qnc cD cX cN cF) f_43 fd_43):qaN P w K mg base CX0 7 f fd ["_law_desk", "_law_row"] (qj7 cD):=by
 have sc:=qee
 refine F.ok qee (fun vs H Q E h=>by obtain ⟨_,_,rfl,_⟩:=h;rfl) (fun cdv A outer s H vs Q E hr h=>?_)
 obtain ⟨x0,x1,rfl,h⟩:=h
 refine ⟨_,(qac (qay (i:=2) sc.nd rfl (Or.inl rfl) qi1)
   (qac (qpy (i:=3) (S:=XS cX cN cF) sc.nd rfl rfl rfl rfl (by rfl) Z.gH Z.xH Z.beH Z.suH
     (fun pins xe E hp=>(qae (qdG (qeU (pv 0) Z.cl C_43 hr (by decide) hp.passes (qaa (pv 1) qad)))))
     (fun pins e=>(qae (qay (i:=2) sc.nd rfl (Or.inl rfl) (pv 3)))))
   (qac (qaF (qam qnE (pv 2) qi1 (qaq _)) (qae (qal qak)) qan)
   (qac (qaF (PW.pt (qhE (qcr (qbw (qat (qcP (K:=K) (S:=XS cX cN cF) rfl Z.kit) (by rfl) T.n_isinstance PyProof.Rows.boot_isinstance (qaa (pv 2) (qaa (qdN (v := .ty "ValueError") (by rfl) T.n_ValueError PyProof.Rows.Boot.«ValueError» rfl) qad))))) (qhE (qbw (qat (qcP (K:=K) (S:=XS cX cN cF) rfl Z.kit) (by rfl) T.n_isinstance PyProof.Rows.boot_isinstance (qaa (pv 2) (qaa (qb5 (v := .ref cO) (by rfl) Z.gO rfl) qad)))) (qeX (qbw (qat (qcP (K:=K) (S:=XS cX cN cF) rfl Z.kit) (by rfl) T.n_isinstance PyProof.Rows.boot_isinstance (qaa (pv 2) (qaa (qb5 (v := .ref cM) (by rfl) Z.gM rfl) qad)))))))) (qae (qal qak)) qan)
   (qac (qay (i:=4) sc.nd rfl (Or.inl rfl) (qaS (qaa (qat (qcP (K:=K) (S:=XS cX cN cF) rfl Z.kit) (by rfl) T.n_isinstance PyProof.Rows.boot_isinstance (qaa (pv 2) (qaa (qb5 (v := .ref cF) (by rfl) Z.gF rfl) qad))) (qaa (qat (qcP (K:=K) (S:=XS cX cN cF) rfl Z.kit) (by rfl) T.n_isinstance PyProof.Rows.boot_isinstance (qaa (pv 2) (qaa (qb5 (v := .ref cX) (by rfl) Z.gX rfl) qad))) (qaa (qat (qcP (K:=K) (S:=XS cX cN cF) rfl Z.kit) (by rfl) T.n_isinstance PyProof.Rows.boot_isinstance (qaa (pv 2) (qaa (qb5 (v := .ref cN) (by rfl) Z.gN rfl) qad))) qad)))))
   (qac (qaF (qam (qfk (K:=K) rfl hr.units0) (qat (qaL (K:=K) rfl) (by rfl) T.n_len PySem.boot_len (qaa (qbj (N:=["_law_truth"]) (nt:=1) (caps:=[]) qaT rfl (qa3 (pv 4)) (fun _ _ _ _ _=>(qaw (i:=0) (show List.Nodup (α:=Str) ["_law_truth"] from by decide +kernel) rfl (Or.inl rfl))) qa2 (fun _ _ _ _ _=>(qgy (qbw (pv 0)))) (fun _ _ _ _ _=>(pv 0))) qad)) qaf (qaq _)) (qae (qal qak)) qan)
   (qae (qal (qbf (qc0 (K:=K) rfl) (qaS (qaa qak (qaa qak (qaa qak qad)))) (qnR (K:=K) rfl ygu yfs yhc qk2 (pv 4) (qaa qfE qad)) (fun _ _=>rfl)))))))))),?_⟩
 refine rdg (σ':=[some x0,some x1,none,none,none]) rfl ?_
 obtain ⟨d,pk,ws,m,z,o,rfl,D,h5,rfl,hS,h⟩:=h
 obtain ⟨dx,pw,o1,_⟩:=D.ob
 refine qa5 (fun σ' H'=>H=H'/\σ'=[some (.ref d),some (.str z),some .non,none,none]) ?_ fun N hN=>?_
 rotate_left
 . (try walk_at "rd")
   exact hN _ _ ⟨rfl,rfl⟩
 rintro σ' H' ⟨rfl,rfl⟩
 refine qa5 (fun σ' H'=>(σ'=[some (.ref d),some (.str z),some .non,none,none]/\Q (.str "ok") H')\/∃(a0 a1 a4:Option V) (e C:Addr) (t:Str),σ'=[a0,a1,some (.ref e),none,a4]/\H' e=some (XO e C)/\XS cX cN cF C/\(C=cF/\t = "full" \/ C=cX/\t = "text" \/ C=cN/\t = "family")/\∀H2,qav H' H2->Q (.str t) H2) ?_ fun N hN=>?_
 rotate_left
 . unfold qoE
   (try walk_at "rd")
   refine ⟨dx,_,o1,qdf _ _ (by decide +kernel) (by decide +kernel),_,_,rfl,d,pk,ws,m,z,o,rfl,D,h5,rfl,hS,?_⟩
   cases o with
   | put n gs=>exact fun H' s' D'=>hN _ _ (.inl ⟨rfl,h H' s' D'⟩)
   | ans=>exact fun t H' s'=>hN _ _ (.inl ⟨rfl,h H' s'⟩)
   | tx =>
     refine fun H1 s1=>⟨cX,rfl,.inl rfl,fun e σ' hl he=>?_⟩
     obtain ⟨a0,a1,a2,a3,a4,rfl⟩:∃a0 a1 a2 a3 a4,σ'=[a0,a1,a2,a3,a4]:=by
       match σ',hl with
       | [a0,a1,a2,a3,a4],_=>exact ⟨a0,a1,a2,a3,a4,rfl⟩
     (try walk_at "rd")
     exact hN _ _ (.inr ⟨a0,a1,a4,e,cX, "text",rfl,qaj,.inl rfl,.inr (.inl ⟨rfl,rfl⟩),fun H2 s2=>h _ ((s1.trans (qav.new he)).trans s2)⟩)
   | fy =>
     refine fun H1 s1=>⟨cN,rfl,.inr (.inl rfl),fun e σ' hl he=>?_⟩
     obtain ⟨a0,a1,a2,a3,a4,rfl⟩:∃a0 a1 a2 a3 a4,σ'=[a0,a1,a2,a3,a4]:=by
       match σ',hl with
       | [a0,a1,a2,a3,a4],_=>exact ⟨a0,a1,a2,a3,a4,rfl⟩
     (try walk_at "rd")
     exact hN _ _ (.inr ⟨a0,a1,a4,e,cN, "family",rfl,qaj,.inr (.inl rfl),.inr (.inr ⟨rfl,rfl⟩),fun H2 s2=>h _ ((s1.trans (qav.new he)).trans s2)⟩)
   | fl =>
     refine fun H1 s1=>⟨cF,rfl,.inr (.inr rfl),fun e σ' hl he=>?_⟩
     obtain ⟨a0,a1,a2,a3,a4,rfl⟩:∃a0 a1 a2 a3 a4,σ'=[a0,a1,a2,a3,a4]:=by
       match σ',hl with
       | [a0,a1,a2,a3,a4],_=>exact ⟨a0,a1,a2,a3,a4,rfl⟩
     (try walk_at "rd")
     exact hN _ _ (.inr ⟨a0,a1,a4,e,cF, "full",rfl,qaj,.inr (.inr rfl),.inl ⟨rfl,rfl⟩,fun H2 s2=>h _ ((s1.trans (qav.new he)).trans s2)⟩)
 rintro σ' H1 (⟨rfl,hq⟩ | ⟨a0,a1,a4,e,C,t,rfl,he,hC,ht,q⟩)
 . (try walk_at "rd")
   exact ⟨rfl,hq⟩
 (try walk_at "rd")
 refine ⟨rfl,C,hC,e,_,true,rfl,he,.inl ⟨"ValueError",rfl,Z.iV C hC⟩,true,rfl,?_⟩
 rw [if_neg (by decide)]
 refine ⟨C,hC,e,_,false,rfl,he,.inr (.inl ⟨cO,rfl,Z.iO C hC⟩),false,rfl,?_⟩
 rw [if_neg (by decide)]
 refine ⟨C,hC,e,_,false,rfl,he,.inr (.inl ⟨cM,rfl,Z.iM C hC⟩),false,rfl,?_⟩
 rw [if_neg (by decide)]
 refine ⟨C,hC,e,_,_,rfl,he,.inr (.inl ⟨cF,rfl,Z.iF C hC⟩),C,hC,e,_,_,rfl,he,.inr (.inl ⟨cX,rfl,Z.iX C hC⟩),C,hC,e,_,_,rfl,he,.inr (.inl ⟨cN,rfl,Z.iN C hC⟩),qaE (by simp),fun p hp=>⟨⟨_,SqL.of qaj⟩,?_⟩⟩
 obtain ⟨bs,eb,h1,h2,h3⟩:∃bs:List Bool,bs=[decide (C=cF),decide (C=cX),decide (C=cN)]/\(bs.filter id).length=1/\true∈bs/\[("full" : Str), "text", "family"][bs.idxOf true]?=some t:=by
   refine ⟨_,rfl,?_⟩
   have n1:=Z.nXN
   have n2:=Z.nXF
   have n3:=Z.nNF
   rcases ht with ⟨rfl,rfl⟩ | ⟨rfl,rfl⟩ | ⟨rfl,rfl⟩
   . simp [Ne.symm n2,Ne.symm n3]
   . simp [n1,n2]
     rfl
   . simp [Ne.symm n1,n3]
     rfl
 have ev:[V.bl (decide (C=cF)),V.bl (decide (C=cX)),V.bl (decide (C=cN))]=bs.map V.bl:=by rw [eb];rfl
 have lb:bs.length=3:=by rw [eb];rfl
 rw [ev]
 generalize g:upd H1 p _=G
 have a:=qax g
 have sm:=qau g hp
 refine qkH (fs:=bs.map V.bl) (fun v=>match v with | .bl b=>b | _=>false) (fun v=>v) (SqL.of a) (by rw [ybz];omega) (fun x hx H3 s3 R R' r1 r2=>?_) fun H3 p3 s3 hp3=>?_
 . obtain ⟨b,_,rfl⟩:=ybq.mp hx
   (try walk_at "rd")
   cases b with
   | true=>exact qjF (r1 rfl _ (qav.refl _))
   | false=>exact qgJ (r2 rfl _ (qav.refl _))
 have lf:(((bs.map V.bl).filter fun v=>match v with | .bl b=>b | _=>false).map fun v=>v).length=1:=by
   rw [ybz,List.filter_map,ybz]
   exact h1
 generalize g3:upd H3 p3 _=G3
 have a3:=qax g3
 have s3:=s3.trans (qau g3 hp3)
 refine ⟨p3,rfl,_,.inl (SqL.of a3),?_⟩
 rw [lf]
 refine ⟨false,rfl,?_⟩
 rw [if_neg (by decide)]
 refine ⟨qaE (by simp),fun p4 hp4=>?_⟩
 generalize g4:upd G3 p4 _=G4
 have a4:G4 p4=some (.lst (sV [("full" : Str), "text", "family"])):=qax g4
 have s4:=s3.trans (qau g4 hp4)
 exact ⟨qdw (s4 _ _ a),p,bs,rfl,rfl,s4 _ _ a,h2,by omega,qbC (SqL.of a4) (qf7 h3) (q _ (sm.trans s4))⟩
abbrev qgw:Stmt:=top 92
def qnH:qai ["_law_script", "_law_cell_here", "_law_many", "_law_words_here", "_law_desk", "_law_count", "_law_k", "_law_stand", "_law_number", "_law_name_here", "_law_some", "_law_word", "_law_way", "_law_row", "_law_owed"] ["_law_script"] (qab qgw):=fsc
def qoC {X:Cx} {i:Nat} {x:Str} {es:List Expr} {te:TE} {p pos pos':Pos} (hN:X.N.Nodup) (hi:X.N[i]?=some x) (hx:Loc X.env.scope x) (he:PE X (.List es p) te) (hf:X.fn x=true\/X.env.scope.names.lookup x=some .local:=by first | exact .inl rfl | exact .inr rfl | assumption):PS X (.Assign [.Name x pos'] (.List es p) pos) (qnK te (qel i)):=qay hN hi hx he rfl hf
def qde {X:Cx} {i:Nat} {x:Str} {a b:Expr} {o:Operator} {te:TE} {p pos pos':Pos} (hN:X.N.Nodup) (hi:X.N[i]?=some x) (hx:Loc X.env.scope x) (he:PE X (.BinOp a o b p) te) (hf:X.fn x=true\/X.env.scope.names.lookup x=some .local:=by first | exact .inl rfl | exact .inr rfl | assumption):PS X (.Assign [.Name x pos'] (.BinOp a o b p) pos) (qnK te (qel i)):=qay hN hi hx he rfl hf
def qdA {X:Cx} {te:TE} {es:List Expr} {t:TA} {l o r p} (ha:PE X (.BinOp l o r p) te) (hr:PA X es t):PA X (.BinOp l o r p::es) (qdQ te t):=qaa ha hr
def qrE {X:Cx} {te:TE} {es:List Expr} {t:TA} {l r p} (ha:PE X (.Subscript l r p) te) (hr:PA X es t):PA X (.Subscript l r p::es) (qdQ te t):=qaa ha hr
def qrz {X:Cx} {te:TE} {es:List Expr} {t:TA} {l o r p} (ha:PE X (.ListComp l o r p) te) (hr:PA X es t):PA X (.ListComp l o r p::es) (qdQ te t):=qaa ha hr
def qlM {k:Nat} (h:k<=60):Tx.Wd (nmT k):=by
 have:∀k,k<61->1<=(nmT k).length/\(nmT k).length<=8/\∀c∈Tx.sg (nmT k),97<=c/\c<=122:=by decide +kernel
 exact this k (by omega)
def qnU {i j:Nat} (hi:i<=60) (hj:j<=60) (h:nmT i=nmT j):i=j:=by
 have:∀i,i<61->∀j,j<61->nmT i=nmT j->i=j:=by decide +kernel
 exact this i (by omega) j (by omega) h
def qs6 {k:Nat} (h:k<=60):("q" : Str)≠nmT k:=by
 have:∀k,k<61->("q" : Str)≠nmT k:=by decide +kernel
 exact this k (by omega)
def qsD:nmT 0=("fa" : Str):=by decide +kernel
/-- the first st names are kept -/
def Kpt (st:Nat) (m:List (Str×List Nat)):Prop:=m.length=st/\st<=20/\∀n,m.lookup n≠none↔∃k,k<st/\n=nmT k
def Kpt.nil:Kpt 0 []:=⟨rfl,by decide,fun n=>⟨fun h=>absurd rfl h,fun ⟨k,hk,_⟩=>absurd hk (yfq k)⟩⟩
def Kpt.has {st:Nat} {m:List (Str×List Nat)} (h:Kpt st m) {k:Nat} (hk:k<=60):m.lookup (nmT k)≠none↔k<st:=by
 rw [h.2.2]
 have:=h.2.1
 exact ⟨fun ⟨j,hj,e⟩=>by rw [qnU hk (by omega) e];exact hj,fun hj=>⟨k,hj,rfl⟩⟩
def Kpt.q {st:Nat} {m:List (Str×List Nat)} (h:Kpt st m):m.lookup ("q" : Str)=none:=by
 cases e:m.lookup ("q" : Str) with
 | none=>rfl
 | some fs =>
   obtain ⟨k,hk,e'⟩:=(h.2.2 "q").mp (by rw [e];simp)
   have:=h.2.1
   exact absurd e' (qs6 (by omega))
def Kpt.put {st k:Nat} {m:List (Str×List Nat)} (h:Kpt st m) (hk:k<st) (gs:List Nat):Kpt st (qlP m (nmT k) gs):=by
 have:=h.2.1
 have hh:=(h.has (k:=k) (by omega)).mpr hk
 refine ⟨?_,h.2.1,fun n=>?_⟩
 . rw [qb0,h.1]
   cases e:m.lookup (nmT k) with
   | none=>exact absurd e hh
   | some _=>rfl
 . rw [qb1]
   by_cases e:n=nmT k
   . rw [if_pos e]
     exact ⟨fun _=>⟨k,hk,e⟩,fun _=>by simp⟩
   . rw [if_neg e]
     exact h.2.2 n
def Kpt.new {st:Nat} {m:List (Str×List Nat)} (h:Kpt st m) (hs:st<20) (gs:List Nat):Kpt (st+1) (qlP m (nmT st) gs):=by
 refine ⟨?_,by omega,fun n=>?_⟩
 . rw [qb0,h.1]
   cases e:m.lookup (nmT st) with
   | none=>rfl
   | some _=>exact absurd ((h.has (k:=st) (by omega)).mp (by rw [e];simp)) (ydz _)
 . rw [qb1]
   by_cases e:n=nmT st
   . rw [if_pos e]
     exact ⟨fun _=>⟨st,yck _,e⟩,fun _=>by simp⟩
   . rw [if_neg e,h.2.2 n]
     exact ⟨fun ⟨k,hk,e'⟩=>⟨k,by omega,e'⟩,fun ⟨k,hk,e'⟩=>⟨k,by
       rcases Nat.lt_succ_iff_lt_or_eq.mp hk with z | z
       . exact z
       . rw [z] at e';exact absurd e' e,e'⟩⟩
def qcI (a b c:Str):a++b++c=a++(b++c):=congrArg Str.mk yea
def qrV {d n w:Str} {ks:List Str} (h1:wanted d=some ks) (hd:¬d = "let") (fd:32∉Tx.sg d) (fn:Tx.Wd n) (fw:32∉Tx.sg w) (hl:2=ks.length) (ld:d.length<=100) (lw:w.length<=100):Prt (d ++ " " ++ n ++ " " ++ w) d [n,w] ks:=by
 have e:d ++ " " ++ n ++ " " ++ w=pre [d,n] w:=by
   show _=d ++ " " ++ (n ++ " " ++ w)
   simp only [qcI]
 rw [e]
 refine qhR (ds:=[n]) h1 hd (fun x hx=>?_) fw hl ?_
 . rcases ybd.mp hx with rfl | hx
   . exact fd
   . rw [ydu.mp hx]
     exact fn.free (by decide)
 . rw [<-e]
   have:=fn.2.1
   simp only [Str.length_append,show (" " : Str).length=1 by decide +kernel]
   omega
def qrI {d n v w:Str} {ks:List Str} (h1:wanted d=some ks) (hd:¬d = "let") (fd:32∉Tx.sg d) (fn:Tx.Wd n) (fv:32∉Tx.sg v) (fw:32∉Tx.sg w) (hl:3=ks.length) (ld:d.length<=100) (lv:v.length<=100) (lw:w.length<=100):Prt (d ++ " " ++ n ++ " " ++ (v ++ " " ++ w)) d [n,v,w] ks:=by
 have e:d ++ " " ++ n ++ " " ++ (v ++ " " ++ w)=pre [d,n,v] w:=by
   show _=d ++ " " ++ (n ++ " " ++ (v ++ " " ++ w))
   simp only [qcI]
 rw [e]
 refine qhR (ds:=[n,v]) h1 hd (fun x hx=>?_) fw hl ?_
 . rcases ybd.mp hx with rfl | hx
   . exact fd
   . rcases ybd.mp hx with rfl | hx
     . exact fn.free (by decide)
     . rw [ydu.mp hx]
       exact fv
 . rw [<-e]
   have:=fn.2.1
   simp only [Str.length_append,show (" " : Str).length=1 by decide +kernel]
   omega
def qrO {n w:Str} (fn:Tx.Wd n) (lw:w.length<=100):Prt (Str.ofString "let" ++ " " ++ n ++ " " ++ w) "let" [n,w] ["new", "text"]:=by
 have e:Str.ofString "let" ++ " " ++ n ++ " " ++ w=pre ["let",n] w:=by
   show _=("let" : Str) ++ " " ++ (n ++ " " ++ w)
   simp only [qcI]
 rw [e]
 refine qn0 (fn.free (by decide)) ?_
 rw [<-e]
 have:=fn.2.1
 simp only [Str.length_append,show (" " : Str).length=1 by decide +kernel,show (Str.ofString "let").length=3 by decide +kernel]
 omega
def qpU:Res->Str
 | .put _ _ => "ok"
 | .ans => "ok"
 | .tx => "text"
 | .fy => "family"
 | .fl => "full"
def qbO {ws:List Str} {m:List (Str×List Nat)} {z deed n:Str} {r ks:List Str} {ths:List Th} {gs:List Nat} (hP:Prt z deed (n::r) ("new" :: ks)) (fn:Tx.Wd n) (hr:∀w∈r,w.length<=900) (hT:qmx ws m ks r ths) (hM:MkR ws.length deed ths gs) (hF:Fml ws.length gs):qmw ws m z (if m.lookup n≠none\/m.length<20 then .put n gs else .fl):=by
 refine ⟨deed,n::r, "new" :: ks,.nm n::ths,hP,fun w hw=>?_,fun i k w th h1 h2 h3=>?_,?_⟩
 . rcases ybd.mp hw with rfl | hw
   . have:=fn.2.1
     omega
   . exact hr w hw
 . cases i with
   | zero=>cases h1;cases h2;cases h3;exact .new fn
   | succ i=>exact hT.2 i k w th (by simpa using h1) (by simpa using h2) (by simpa using h3)
 . by_cases c:m.lookup n≠none\/m.length<20
   . rw [if_pos c]
     exact ⟨by rw [yca,yca,hT.1],rfl,⟨ths,rfl,hM⟩,hF,c⟩
   . rw [if_neg c]
     refine ⟨by rw [yca,yca,hT.1],rfl,n,ths,rfl,?_,?_⟩
     . exact Classical.byContradiction fun z=>c (.inl z)
     . exact Nat.le_of_not_lt fun z=>c (.inr z)
def qdb {ws:List Str} {m:List (Str×List Nat)} {z deed n w:Str} {r ks:List Str} (hP:Prt z deed (n::w::r) ("new" :: "family" :: ks)) (fn:Tx.Wd n) (hr:∀x∈w::r,x.length<=900) (hw:m.lookup w=none):qmw ws m z .fy:=by
 refine ⟨deed,_,_,[.nm n],hP,fun x hx=>?_,fun i k w th h1 h2 h3=>?_,w,rfl,rfl,hw⟩
 . rcases ybd.mp hx with rfl | hx
   . have:=fn.2.1
     omega
   . exact hr x hx
 . cases i with
   | zero=>cases h1;cases h2;cases h3;exact .new fn
   | succ i=>cases h3
def qo0 {ws:List Str} {m:List (Str×List Nat)} {z deed n w:Str} (hP:Prt z deed [n,w] ["new", "text"]) (fn:Tx.Wd n) (hl:w.length<=100) (hw:Tx.rF ws w=none):qmw ws m z .tx:=by
 refine ⟨deed,_,_,[.nm n],hP,fun x hx=>?_,fun i k w th h1 h2 h3=>?_,w,rfl,rfl,hw,hl⟩
 . rcases ybd.mp hx with rfl | hx
   . have:=fn.2.1
     omega
   . rw [ydu.mp hx]
     omega
 . cases i with
   | zero=>cases h1;cases h2;cases h3;exact .new fn
   | succ i=>cases h3
def qnf {ws:List Str} (hw:Tx.Wds ws):Tx.rF ws "-+" = none:=by
 have e1:_root_.PySem.Txt.split ("-+" : Str) " " = [("-+" : Str)]:=by decide +kernel
 have e2:_root_.PySem.Txt.split ("-+" : Str) "+" = [("-" : Str), ""]:=by decide +kernel
 have nd:("-" : Str)∉ws:=fun h=>by
   have:=(hw.wd _ h).2.2 45 (by decide +kernel)
   omega
 unfold Tx.rF
 rw [e1,if_neg (by decide +kernel),if_neg]
 rintro ⟨h,_⟩
 have h:=h "-+" ybb
 unfold Tx.rS at h
 rw [e2,if_neg (by decide +kernel),if_neg fun z=>nd (z.1 "-" ybb)] at h
 cases h
def qcu {n:Nat} {fs:List Nat} (hn:n<=5) (h1:fs.Pairwise (· < ·)) (h2:∀b∈fs,b<2^n):Fml n fs:=⟨h1,h2,ycf (Fam.nodup_le _ _ (h1.imp ydh) h2) (ycf (yaf (n:=2) (by decide) hn) (by decide))⟩
/-- the rows' first words and last words -/
def rws (ws:List Str):List (List Str):=([["let", "none"],["let", "-"],["hits", "fa"],["let", "-+"],["hits", "q"],["rests", "fa"],["either", "fa fa"],["both", "fa fa"]]:List (List Str))++((ws.take 1).map fun w=>[[("in" : Str),Str.ofString "fa " ++ w],[("out" : Str),Str.ofString "fa " ++ w]]).flatten
def qfD (st number way:Nat):Str:=if way=4\/(way=2\/4<way)/\st=0 then Str.ofString "family" else if way=3 then Str.ofString "text" else if st<=number/\st=20 then Str.ofString "full" else Str.ofString "ok"
def tgt (st number:Nat):Nat:=if number<st then number else if st=20 then number else st
/-- what becomes of a row of the law -/
def Out (ws:List Str) (m:List (Str×List Nat)) (z:Str) (st number way:Nat):Prop:=∃o,qmw ws m z o/\qpU o=qfD st number way/\(o ≠ .ans)/\∀n gs,o = .put n gs->n=nmT (tgt st number)/\(tgt st number<st\/tgt st number=st/\st<20)
def qkR {st number:Nat} (hn:number<=59) (hs:st<=20):tgt st number<=60:=by
 unfold tgt
 split
 . omega
 . split<;>omega
def qhU {ws:List Str} {m:List (Str×List Nat)} {z:Str} {st number way:Nat} {gs:List Nat} (K:Kpt st m) (hn:number<=59) (h4:way≠4) (h3:way≠3) (hs:¬((way=2\/4<way)/\st=0)) (h:qmw ws m z (if m.lookup (nmT (tgt st number))≠none\/m.length<20 then .put (nmT (tgt st number)) gs else .fl)):Out ws m z st number way:=by
 have h20:=K.2.1
 have c:(m.lookup (nmT (tgt st number))≠none\/m.length<20)↔¬(st<=number/\st=20):=by
   rw [K.has (qkR hn h20),K.1]
   unfold tgt
   by_cases h1:number<st
   . rw [if_pos h1]
     omega
   . rw [if_neg h1]
     by_cases h2:st=20
     . rw [if_pos h2]
       omega
     . rw [if_neg h2]
       omega
 have eo:qfD st number way=if st<=number/\st=20 then Str.ofString "full" else Str.ofString "ok" := by
   unfold qfD
   rw [if_neg fun z=>z.elim h4 hs,if_neg h3]
 by_cases d:st<=number/\st=20
 . rw [if_neg (fun z=>(c.mp z) d)] at h
   exact ⟨.fl,h,by rw [eo,if_pos d];rfl,nofun,nofun⟩
 . rw [if_pos (c.mpr d)] at h
   refine ⟨_,h,by rw [eo,if_neg d];rfl,nofun,fun n gs e=>?_⟩
   cases e
   refine ⟨rfl,?_⟩
   unfold tgt
   by_cases h1:number<st
   . rw [if_pos h1]
     exact .inl h1
   . rw [if_neg h1,if_neg (by omega)]
     exact .inr ⟨rfl,by omega⟩
def qd1 {ws:List Str} {m:List (Str×List Nat)} {z:Str} {st number way:Nat} (K:Kpt st m) (hn:number<=59) (hway:way=2\/4<way) (h0:m.lookup ("fa" : Str)=none->qmw ws m z .fy)
   (h1:∀fs,m.lookup ("fa" : Str)=some fs->∃gs,qmw ws m z (if m.lookup (nmT (tgt st number))≠none\/m.length<20 then .put (nmT (tgt st number)) gs else .fl)):Out ws m z st number way:=by
 have hh:=K.has (k:=0) (by omega)
 rw [qsD] at hh
 cases e:m.lookup ("fa" : Str) with
 | none =>
   have:st=0:=by
     rcases ycj st with z | z
     . exact z
     . exact absurd e (hh.mpr z)
   refine ⟨.fy,h0 e,?_,nofun,nofun⟩
   unfold qfD
   rw [if_pos (.inr ⟨hway,this⟩)]
   rfl
 | some fs =>
   have:0<st:=hh.mp (by rw [e];simp)
   obtain ⟨gs,h⟩:=h1 fs e
   exact qhU K hn (by omega) (by omega) (by omega) h
def qpx {ws:List Str} (hw:Tx.Wds ws) (h5:ws.length<=5) {m:List (Str×List Nat)} {st number way:Nat} (K:Kpt st m) (fm:∀n fs,m.lookup n=some fs->Fml ws.length fs) (hn:number<=59) {deed qbM:Str} (e:(rws ws)[way]?=some [deed,qbM]):32∉Tx.sg deed/\deed.length<=10/\qbM.length<=20/\Out ws m (deed ++ " " ++ nmT (tgt st number) ++ " " ++ qbM) st number way:=by
 have fn:=qlM (qkR (st:=st) hn K.2.1)
 have sh:∀w∈[("fa" : Str), "fa"],w.length<=900:=by decide +kernel
 have s1:∀w∈[("fa" : Str)],w.length<=900:=by decide +kernel
 match way,e with
 | 0,e =>
   have e:some [("let" : Str), "none"]=some [deed,qbM]:=e
   cases e
   refine ⟨by decide +kernel,by decide +kernel,by decide +kernel,qhU K hn (by decide) (by decide) (by omega) (qbO (ths:=[.fm []]) (qrO fn (by decide +kernel)) fn (by decide +kernel) (qgI (show Thg ws m "text" "none" (.fm []) from Thg.text (fs:=[]) (qcu h5 .nil nofun))) .let (qcu h5 .nil nofun))⟩
 | 1,e =>
   have e:some [("let" : Str), "-"]=some [deed,qbM]:=e
   cases e
   have f0:Fml ws.length [0]:=qcu h5 (yhd _ _) fun b hb=>by rw [ydu.mp hb];exact yah _
   refine ⟨by decide +kernel,by decide +kernel,by decide +kernel,qhU K hn (by decide) (by decide) (by omega) (qbO (ths:=[.fm [0]]) (qrO fn (by decide +kernel)) fn (by decide +kernel) (qgI (show Thg ws m "text" "-" (.fm [0]) from Thg.text (fs:=[0]) f0)) .let f0)⟩
 | 2,e =>
   have e:some [("hits" : Str), "fa"]=some [deed,qbM]:=e
   cases e
   have hP:=qrV (d := "hits") (n:=nmT (tgt st number)) (w := "fa") (ks:=["new", "family"]) (by decide +kernel) (by decide +kernel) (by decide +kernel) fn (by decide +kernel) rfl (by decide +kernel) (by decide +kernel)
   refine ⟨by decide +kernel,by decide +kernel,by decide +kernel,qd1 K hn (by decide) (qdb hP fn s1) fun fs ef=>⟨_,qbO hP fn s1 (qgI (.fam ef)) (.hits (fm _ _ ef)) (qcu h5 (Fam.hits_rise _ _) Fam.hits_lt)⟩⟩
 | 3,e =>
   have e:some [("let" : Str), "-+"]=some [deed,qbM]:=e
   cases e
   refine ⟨by decide +kernel,by decide +kernel,by decide +kernel,.tx,qo0 (qrO fn (by decide +kernel)) fn (by decide +kernel) (qnf hw),?_,nofun,nofun⟩
   unfold qfD
   rw [if_neg (by omega),if_pos rfl]
   rfl
 | 4,e =>
   have e:some [("hits" : Str), "q"]=some [deed,qbM]:=e
   cases e
   have hP:=qrV (d := "hits") (n:=nmT (tgt st number)) (w := "q") (ks:=["new", "family"]) (by decide +kernel) (by decide +kernel) (by decide +kernel) fn (by decide +kernel) rfl (by decide +kernel) (by decide +kernel)
   refine ⟨by decide +kernel,by decide +kernel,by decide +kernel,.fy,qdb hP fn (by decide +kernel) K.q,?_,nofun,nofun⟩
   unfold qfD
   rw [if_pos (.inl rfl)]
   rfl
 | 5,e =>
   have e:some [("rests" : Str), "fa"]=some [deed,qbM]:=e
   cases e
   have hP:=qrV (d := "rests") (n:=nmT (tgt st number)) (w := "fa") (ks:=["new", "family"]) (by decide +kernel) (by decide +kernel) (by decide +kernel) fn (by decide +kernel) rfl (by decide +kernel) (by decide +kernel)
   refine ⟨by decide +kernel,by decide +kernel,by decide +kernel,qd1 K hn (by decide) (qdb hP fn s1) fun fs ef=>⟨_,qbO hP fn s1 (qgI (.fam ef)) (.rests (fm _ _ ef)) (qcu h5 (Fam.rsts_rise (fm _ _ ef).rise (fm _ _ ef).lt) Fam.rsts_lt)⟩⟩
 | 6,e =>
   have e:some [("either" : Str), "fa fa"]=some [deed,qbM]:=e
   cases e
   have hP:=qrI (d := "either") (n:=nmT (tgt st number)) (v := "fa") (w := "fa") (ks:=["new", "family", "family"]) (by decide +kernel) (by decide +kernel) (by decide +kernel) fn (by decide +kernel) (by decide +kernel) rfl (by decide +kernel) (by decide +kernel) (by decide +kernel)
   rw [show ("fa" : Str) ++ " " ++ "fa" = "fa fa" by decide +kernel] at hP
   refine ⟨by decide +kernel,by decide +kernel,by decide +kernel,qd1 K hn (by decide) (qdb hP fn sh) fun fs ef=>⟨_,qbO hP fn sh (qmx.cons (.fam ef) (qgI (.fam ef))) (.either (fm _ _ ef) (fm _ _ ef)) (qcu h5 (qlp _ _) (qoi (fm _ _ ef).lt (fm _ _ ef).lt))⟩⟩
 | 7,e =>
   have e:some [("both" : Str), "fa fa"]=some [deed,qbM]:=e
   cases e
   have hP:=qrI (d := "both") (n:=nmT (tgt st number)) (v := "fa") (w := "fa") (ks:=["new", "family", "family"]) (by decide +kernel) (by decide +kernel) (by decide +kernel) fn (by decide +kernel) (by decide +kernel) rfl (by decide +kernel) (by decide +kernel) (by decide +kernel)
   rw [show ("fa" : Str) ++ " " ++ "fa" = "fa fa" by decide +kernel] at hP
   refine ⟨by decide +kernel,by decide +kernel,by decide +kernel,qd1 K hn (by decide) (qdb hP fn sh) fun fs ef=>⟨_,qbO hP fn sh (qmx.cons (.fam ef) (qgI (.fam ef))) (.both (fm _ _ ef) (fm _ _ ef)) (qcu h5 (qn6 _ _) (qsh (fm _ _ ef).lt (fm _ _ ef).lt))⟩⟩
 | way+8,e =>
   cases ws with
   | nil=>exact absurd (show none=some [deed,qbM] from e) (by simp)
   | cons w0 r =>
   have w0w:=hw.wd w0 ybb
   have w0l:=w0w.2.1
   have sw:∀w∈[("fa" : Str),w0],w.length<=900:=fun w hm=>by
     rcases ybd.mp hm with rfl | hm
     . decide +kernel
     . rw [ydu.mp hm]
       omega
   have lr:(Str.ofString "fa " ++ w0).length<=20:=by
     rw [Str.length_append,show (Str.ofString "fa ").length=3 by decide +kernel]
     omega
   have er:("fa" : Str) ++ " " ++ w0=Str.ofString "fa " ++ w0:=by rw [show ("fa" : Str) ++ " " = Str.ofString "fa " by decide +kernel]
   have ix:(w0::r).idxOf w0<(w0::r).length:=ygd ybb
   match way,e with
   | 0,e =>
     have e:some [("in" : Str),Str.ofString "fa " ++ w0]=some [deed,qbM]:=e
     cases e
     have hP:=qrI (d := "in") (n:=nmT (tgt st number)) (v := "fa") (w:=w0) (ks:=["new", "family", "name"]) (by decide +kernel) (by decide +kernel) (by decide +kernel) fn (by decide +kernel) (w0w.free (by decide)) rfl (by decide +kernel) (by decide +kernel) (by omega)
     rw [er] at hP
     refine ⟨by decide +kernel,by decide +kernel,lr,qd1 K hn (by decide) (qdb hP fn sw) fun fs ef=>⟨_,qbO hP fn sw (qmx.cons (.fam ef) (qgI (.name ybb))) (.inn (fm _ _ ef) ix) (qcu h5 (ql0 _ _) (qrn (fm _ _ ef).lt))⟩⟩
   | 1,e =>
     have e:some [("out" : Str),Str.ofString "fa " ++ w0]=some [deed,qbM]:=e
     cases e
     have hP:=qrI (d := "out") (n:=nmT (tgt st number)) (v := "fa") (w:=w0) (ks:=["new", "family", "name"]) (by decide +kernel) (by decide +kernel) (by decide +kernel) fn (by decide +kernel) (w0w.free (by decide)) rfl (by decide +kernel) (by decide +kernel) (by omega)
     rw [er] at hP
     refine ⟨by decide +kernel,by decide +kernel,lr,qd1 K hn (by decide) (qdb hP fn sw) fun fs ef=>⟨_,qbO hP fn sw (qmx.cons (.fam ef) (qgI (.name ybb))) (.out (fm _ _ ef) ix) (qcu h5 (qg7 _ (Fam.mins_rise (qa6 _))) (qqZ (fm _ _ ef).lt))⟩⟩
   | way+2,e=>exact absurd (show none=some [deed,qbM] from e) (by simp)
def qop {x:V} {xs:List V} {lo hi:Option Int} (h:x∈qjG xs lo hi):x∈xs:=List.mem_of_mem_drop (yhe h)
def qpf (xs:List V) (lo hi:Option Int):(qjG xs lo hi).length<=xs.length:=by
 show (List.take _ (List.drop _ xs)).length<=_
 rw [yem,ycm]
 omega
def qoy {K:W.Frag} {pk a:Addr} {H H':Hp} {xs:List V} {kvs:List (Key×V)} (s:SmB pk H H') (c:H pk=some (.dK kvs)) (h:SqL K H a xs):SqL K H' a xs:=by
 rcases h with (e | ⟨o,e⟩) | h
 . exact .inl (.inl (s _ _ e fun z=>by rw [z,c] at e;cases e))
 . exact .inl (.inr ⟨o,s _ _ e fun z=>by rw [z,c] at e;cases e⟩)
 . exact .inr h
def qjN {H:Hp} {A B:List (List Str)} {ps qs:List Addr} (h1:LsS H A ps) (h2:LsS H B qs):LsS H (A++B) (ps++qs):=by
 refine ⟨by rw [yby,yby,h1.1,h2.1],fun i r L e1 e2=>?_⟩
 by_cases c:i<ps.length
 . rw [yep c] at e1
   rw [yep (by rw [<-h1.1];exact c)] at e2
   exact h1.2 i r L e1 e2
 . rw [yen (by omega)] at e1
   rw [yen (by rw [<-h1.1];omega),<-h1.1] at e2
   exact h2.2 _ r L e1 e2
def qa7 {pk:Addr} {H1 H2 H3:Hp} (a:SmB pk H1 H2) (b:SmB pk H2 H3):SmB pk H1 H3:=fun x o e hb=>b x o (a x o e hb) hb
def qcL {pk:Addr} {H1 H2:Hp} (s:qav H1 H2):SmB pk H1 H2:=fun x o e _=>s x o e
def qlI (K:W.Frag):Sp:=sp1 fun x H Q=>∃(a:Addr) (ns:List Int),x = .ref a/\SqL K H a (ns.map V.int)/\ns.length<=63/\∀H',Q (.bl true) H'
def qqV {f:Addr} {fd:FuncData} (F:Fun K "law" "law" qgw f fd) (T:Txt mg) {cD aW cX cN cF cH cO cM:Addr} (Z:Xt P w K mg cD aW cX cN cF cH cO cM) {f_24:Addr} {fd_24:FuncData} (C_24:Cal P w K mg base "_law_cell" 1 ["_law_script", "_law_k"] (qlK K) f_24 fd_24) {f_18:Addr} {fd_18:FuncData} (C_18:Cal P w K mg base "_law_words" 2 ["_law_cell_here", "_law_count"] (qfn K) f_18 fd_18) {f_08:Addr} {fd_08:FuncData} (C_08:qpC P w K mg base cD 3 ["self", "text"] (qjU cD) f_08 fd_08) {f_34:Addr} {fd_34:FuncData} (C_34:Cal P w K mg base "_law_mix" 1 ["_law_cell_here", "_law_k"] qmV f_34 fd_34) {f_31:Addr} {fd_31:FuncData} (C_31:Cal P w K mg base "_law_name" 1 ["_law_k"] (qh4 K) f_31 fd_31) {f_43:Addr} {fd_43:FuncData} (C_43:qlN P w K mg base cD "say" 6 ["self", "row"] (qnc cD cX cN cF) f_43 fd_43) {f_32:Addr} {fd_32:FuncData} (C_32:Cal P w K mg base "_law_kind" 7 ["_law_desk", "_law_row"] (qj7 cD) f_32 fd_32):qaN P w K mg base CX0 8 f fd ["_law_script"] (qlI K):=by
 have sc:=qnH
 refine F.ok qnH (fun vs H Q E h=>by obtain ⟨_,rfl,_⟩:=h;rfl) (fun cdv A outer s H vs Q E hr h=>?_)
 obtain ⟨x0,rfl,h⟩:=h
 apply Exists.intro
 apply And.intro
 . refine' qac ?_ ?_
   rotate_left 2
   . exact (qay (i:=1) sc.nd rfl (Or.inl rfl) (pec C_24 hr (qaC (pv 0) (qas qaf qad))))
   refine' qac ?_ ?_
   rotate_left 2
   . exact (qde (i:=2) sc.nd rfl (Or.inl rfl) (qar qbn (pec C_34 hr (qaC (pv 1) (qas qaf qad))) qaf))
   refine' qac ?_ ?_
   rotate_left 2
   . exact (qay (i:=3) sc.nd rfl (Or.inl rfl) (pec C_18 hr (qev (pec C_24 hr (qaC (pv 0) (qas qaf qad))) (qaC (pv 2) qad))))
   refine' qac ?_ ?_
   rotate_left 2
   . exact (qay (i:=4) sc.nd rfl (Or.inl rfl) (qlZ C_08 hr (by decide) (by rfl) Z.gDesk (qev (qdU ygp ygs ygt (qf3 (K:=K) rfl) qak (qaC (pv 3) qad)) qad)))
   refine' qac ?_ ?_
   rotate_left 2
   . exact (qay (i:=5) sc.nd rfl (Or.inl rfl) (qbf (qc0 (K:=K) rfl) (qaS (qdA (qar qbn (pec C_34 hr (qaC (pv 1) (qas qaf qad))) qaf) (qas qaf (qas qaf (qas qaf qad))))) (qar qbn (pec C_34 hr (qaC (pv 1) (qas qaf qad))) qaf) (fun _ _=>rfl)))
   refine' qac ?_ ?_
   rotate_left 2
   . exact (qcb PassesOwn.never rfl (qaW (by rfl) T.n_range (qaC (pv 5) qad)) (qaw (i:=6) sc.nd rfl (Or.inl rfl)) (qae (qaF (qam (qfk (K:=K) rfl hr.units0) (qeU (pv 4) Z.cl C_43 hr (by decide) qjX (qdA (qar qaG (qar qaG (qar qaG qak (pec C_31 hr (qaC (pv 6) qad))) qak) (qbf (qc0 (K:=K) rfl) (qaS (qas qak (qas qak qad))) (qar qbn (pv 6) qaf) (fun _ _=>rfl))) qad)) qak (qaq _)) (qae (qal qfE)) qan)))
   refine' qac ?_ ?_
   rotate_left 2
   . exact (qay (i:=7) sc.nd rfl (Or.inl rfl) (pv 5))
   refine' qac ?_ ?_
   rotate_left 2
   . refine' qcb PassesOwn.never rfl (qa3 (qar (qgh (K:=K) rfl) (qaS (qev (pec C_24 hr (qaC (pv 0) (qas qaf qad))) (qev (pec C_24 hr (qaC (pv 0) (qas qaf qad))) qad))) (qcQ (qrC (K:=K) rfl) (pv 0) (qdd qaf) (qdd qaf)))) (qaw (i:=1) sc.nd rfl (Or.inl rfl)) ?_
     rotate_left
     refine' qac ?_ ?_
     rotate_left 2
     . exact (qde (i:=8) sc.nd rfl (Or.inl rfl) (qar qbn (pec C_34 hr (qaC (pv 1) (qas qaf qad))) qaf))
     refine' qac ?_ ?_
     rotate_left 2
     . exact (qay (i:=9) sc.nd rfl (Or.inl rfl) (pec C_31 hr (qaC (pv 8) qad)))
     refine' qac ?_ ?_
     rotate_left 2
     . refine' (qoC (i:=10) ?_ ?_ ?_ ?_ ?_)
       rotate_left
       . exact sc.nd
       . rfl
       . exact (Or.inl rfl)
       . refine' (qaS ?_)
         rotate_left
         refine' (qbJ ?_ ?_)
         rotate_left 2
         . exact (qaS (qas qak (qas qak qad)))
         refine' (qbJ ?_ ?_)
         rotate_left 2
         . exact (qaS (qas qak (qas qak qad)))
         refine' (qbJ ?_ ?_)
         rotate_left 2
         . exact (qaS (qas qak (qas qak qad)))
         refine' (qbJ ?_ ?_)
         rotate_left 2
         . exact (qaS (qas qak (qas qak qad)))
         refine' (qbJ ?_ ?_)
         rotate_left 2
         . exact (qaS (qas qak (qas qak qad)))
         exact qad
       . exact .inr rfl
     refine' qac ?_ ?_
     rotate_left 2
     . refine' (qde (i:=10) ?_ ?_ ?_ ?_ ?_)
       rotate_left
       . exact sc.nd
       . rfl
       . exact (Or.inl rfl)
       . refine' (qar (qgh (K:=K) rfl) ?_ ?_)
         rotate_left 2
         . exact (pv 10)
         . refine' (qaS ?_)
           rotate_left
           refine' (qbJ ?_ ?_)
           rotate_left 2
           . exact (qaS (qas qak (qas qak qad)))
           refine' (qbJ ?_ ?_)
           rotate_left 2
           . exact (qaS (qas qak (qas qak qad)))
           refine' (qbJ ?_ ?_)
           rotate_left 2
           . exact (qaS (qas qak (qas qak qad)))
           exact qad
       . exact .inr rfl
     refine' qac ?_ ?_
     rotate_left 2
     . refine' qcb PassesOwn.never rfl (qa3 (qcQ (qrC (K:=K) rfl) (pv 3) qfe (qdd qaf))) (qaw (i:=11) sc.nd rfl (Or.inl rfl)) ?_
       rotate_left
       apply qae
       refine' (qde (i:=10) ?_ ?_ ?_ ?_ ?_)
       rotate_left
       . exact sc.nd
       . rfl
       . exact (Or.inl rfl)
       . refine' (qar (qgh (K:=K) rfl) ?_ ?_)
         rotate_left 2
         . exact (pv 10)
         . refine' (qaS ?_)
           rotate_left
           refine' (qbJ ?_ ?_)
           rotate_left 2
           . exact (qaS (qas qak (qdA (qar qaG qak (pv 11)) qad)))
           refine' (qbJ ?_ ?_)
           rotate_left 2
           . exact (qaS (qas qak (qdA (qar qaG qak (pv 11)) qad)))
           exact qad
       . exact .inr rfl
     refine' qac ?_ ?_
     rotate_left 2
     . exact (qde (i:=12) sc.nd rfl (Or.inl rfl) (qar qbn (pec C_34 hr (qaC (pv 1) (qas qaf qad))) (qat (qaL (K:=K) rfl) (by rfl) T.n_len PySem.boot_len (qaC (pv 10) qad))))
     refine' qac ?_ ?_
     rotate_left 2
     . exact (qay (i:=13) sc.nd rfl (Or.inl rfl) (qbf (qc0 (K:=K) rfl) (pv 10) (pv 12) (fun _ _=>rfl)))
     refine' qac ?_ ?_
     rotate_left 2
     . exact (qde (i:=13) sc.nd rfl (Or.inl rfl) (qar qaG (qar qaG (qar qaG (qar qaG (qbf (qc0 (K:=K) rfl) (pv 13) qaf (fun _ _=>rfl)) qak) (pv 9)) qak) (qbf (qc0 (K:=K) rfl) (pv 13) qaf (fun _ _=>rfl))))
     refine' qac ?_ ?_
     rotate_left 2
     . exact (qay (i:=14) sc.nd rfl (Or.inl rfl) qak)
     refine' qac ?_ ?_
     rotate_left 2
     . apply qaF
       . exact (PW.pt (qfR (qam qoX (pv 8) (pv 7) (qaq _)) (qdV (qam (qaD (K:=K) rfl hr.units0) (pv 7) qaf (qaq _)))))
       . apply qae
         exact (qay (i:=14) sc.nd rfl (Or.inl rfl) qak)
       . exact (qae (qaF (qam qoX (pv 8) (pv 7) (qaq _)) (qac (qay (i:=9) sc.nd rfl (Or.inl rfl) (pec C_31 hr (qaC (pv 7) qad)))
   (qae (qay (i:=13) sc.nd rfl (Or.inl rfl) (qmz Z.st1 Z.st2 (by decide +kernel) (by decide +kernel) (pv 13) (qar qaG qak (pec C_31 hr (qaC (pv 8) qad))) (qar qaG qak (pv 9)))))) qan))
     refine' qac ?_ ?_
     rotate_left 2
     . apply qaF
       . exact (qam (qaD (K:=K) rfl hr.units0) (pv 12) qaf (qaq _))
       . apply qae
         exact (qay (i:=14) sc.nd rfl (Or.inl rfl) qak)
       . exact qan
     refine' qac ?_ ?_
     rotate_left 2
     . apply qaF
       . exact (PW.pt (qhE (qam (qaD (K:=K) rfl hr.units0) (pv 12) qaf (qaq _)) (qeX (PW.pt (qfR (PW.pt (qhE (qam (qaD (K:=K) rfl hr.units0) (pv 12) qaf (qaq _)) (qeX (qam qmW (pv 12) qaf (qaq _))))) (qdV (qam (qaD (K:=K) rfl hr.units0) (pv 7) qaf (qaq _))))))))
       . apply qae
         exact (qay (i:=14) sc.nd rfl (Or.inl rfl) qak)
       . exact qan
     refine' qac ?_ ?_
     rotate_left 2
     . apply qaF
       . exact (qam (qfk (K:=K) rfl hr.units0) (pec C_32 hr (qaC (pv 4) (qaC (pv 13) qad))) (pv 14) (qaq _))
       . apply qae
         exact (qal qfE)
       . exact qan
     apply qae
     apply qaF
     . exact (PW.pt (qfR (qam (qaD (K:=K) rfl hr.units0) (pv 14) qak (qaq _)) (qdV (qam (qaD (K:=K) rfl hr.units0) (pv 9) (pec C_31 hr (qaC (pv 7) qad)) (qaq _)))))
     . apply qae
       exact (qde (i:=7) sc.nd rfl (Or.inl rfl) (qar qb9 (pv 7) qaf))
     . exact qan
   refine' qac ?_ ?_
   rotate_left 2
   . exact (qcb PassesOwn.never rfl (qaW (by rfl) T.n_range (qas qaf qad)) (qaw (i:=6) sc.nd rfl (Or.inl rfl)) (qae (qaF (qam (qfk (K:=K) rfl hr.units0) (qe8 (qaD (K:=K) rfl hr.units0) (pec C_32 hr (qaC (pv 4) (qdA (qar qaG qak (pec C_31 hr (qaC (pv 6) qad))) qad))) qak (qaq _)) (qe8 qlS (pv 6) (pv 7) (qaq _)) (qaq _)) (qae (qal qfE)) qan)))
   apply qae
   exact (qal qfE)
 refine rdg (σ':=[some x0,none,none,none,none,none,none,none,none,none,none,none,none,none,none]) rfl ?_
 obtain ⟨a,ns,rfl,hS,hlen,q⟩:=h
 refine qa5 (fun σ' H'=>H=H'/\∃c0:Int,σ'=[some (.ref a),some (.int c0),none,none,none,none,none,none,none,none,none,none,none,none,none]) ?_ fun N hN=>?_
 rotate_left
 . (try walk_at "rd")
   exact ⟨_,_,rfl,a,ns,0,rfl,hS,hlen,rfl,by omega,fun c0=>hN _ _ ⟨rfl,c0,rfl⟩⟩
 rintro σ' H' ⟨rfl,c0,rfl⟩
 refine qa5 (fun σ' H'=>H=H'/\∃n:Nat,n<=5/\σ'=[some (.ref a),some (.int c0),some (.int (n:Nat)),none,none,none,none,none,none,none,none,none,none,none,none]) ?_ fun N hN=>?_
 rotate_left
 . (try walk_at "rd")
   refine ⟨_,_,rfl,c0,9,rfl,rfl,by omega,?_⟩
   (try walk_at "rd")
   exact ⟨by decide,hN _ _ ⟨rfl,qbh c0 9%6,by omega,rfl⟩⟩
 rintro σ' H' ⟨rfl,n,hn,rfl⟩
 refine qa5 (fun σ' H'=>∃(p:Addr) (ws:List Str),ws.length=n/\Tx.Wds ws/\qav H H'/\H' p=some (.lst (sV ws))/\σ'=[some (.ref a),some (.int c0),some (.int (ws.length:Nat)),some (.ref p),none,none,none,none,none,none,none,none,none,none,none]) ?_ fun N hN=>?_
 rotate_left
 . (try walk_at "rd")
   exact ⟨_,_,rfl,a,ns,1,rfl,hS,hlen,rfl,by omega,fun c1=>⟨_,_,rfl,c1,n,rfl,rfl,by omega,fun p ws H1 hp s1 f1 hw hl=>hN _ _ ⟨p,ws,hl,hw,s1,f1,by rw [hl]⟩⟩⟩
 rintro σ' H1 ⟨p,ws,rfl,hw,s1,f1,rfl⟩
 have hS:=s1.seq hS
 clear s1
 have h8:=hw.few
 refine qa5 (fun σ' H'=>∃(d pk:Addr),qav H1 H'/\qcY cD H' d pk ws []/\σ'=[some (.ref a),some (.int c0),some (.int (ws.length:Nat)),some (.ref p),some (.ref d),none,none,none,none,none,none,none,none,none,none]) ?_ fun N hN=>?_
 rotate_left
 . (try walk_at "rd")
   refine ⟨rfl,_,p,ws,rfl,rfl,SqL.of f1,qdk (M:=8) (N:=8) (fun y hy=>(hw.wd y hy).2.1) hw.few (by rw [Tx.lit_space];decide) (by decide),fun d dx hd hdx hne=>⟨_,_,rfl,d,dx,ws,rfl,qaj,rfl,hw,fun pk H2 hpk D2 s2=>⟨rfl,?_⟩⟩⟩
   have t2:qav H1 H2:=fun b o e=>s2 b o (by rw [qap (qaX e hd),qap (qaX e hdx)];exact e) (qaX e hd)
   exact hN _ _ ⟨d,pk,t2,D2,rfl⟩
 rintro σ' H2 ⟨d,pk,s2,D2,rfl⟩
 have hS:=s2.seq hS
 have f1:=s2 _ _ f1
 clear s2
 refine qa5 (fun σ' H'=>∃cnt:Nat,cnt<=20/\qav H2 H'/\σ'=[some (.ref a),some (.int c0),some (.int (ws.length:Nat)),some (.ref p),some (.ref d),some (.int (cnt:Nat)),none,none,none,none,none,none,none,none,none]) ?_ fun N hN=>?_
 rotate_left
 . (try walk_at "rd")
   refine ⟨_,_,rfl,c0,10,rfl,rfl,by omega,?_⟩
   (try walk_at "rd")
   refine ⟨by decide,qaE (by simp),fun q1 hq1=>⟨_,_,rfl,c0,11,rfl,rfl,by omega,?_⟩⟩
   (try walk_at "rd")
   refine ⟨by decide,?_⟩
   have b4:qbh c0 11%4<4:=ydo _ (by decide)
   rw [show ((qbh c0 11:Nat):Int)%4=((qbh c0 11%4:Nat):Int) from rfl,show ((qbh c0 10:Nat):Int)%21=((qbh c0 10%21:Nat):Int) from rfl]
   obtain ⟨cnt,hc,ec⟩:∃cnt:Nat,cnt<=20/\[V.int ((qbh c0 10%21:Nat):Int),V.int 19,V.int 20,V.int 20][qbh c0 11%4]?=some (.int (cnt:Nat)):=by
     match qbh c0 11%4,b4 with
     | 0,_=>exact ⟨qbh c0 10%21,by omega,rfl⟩
     | 1,_=>exact ⟨19,by decide,rfl⟩
     | 2,_=>exact ⟨20,by decide,rfl⟩
     | 3,_=>exact ⟨20,by decide,rfl⟩
   exact qbC (SqL.of qaj) (qdP ec) (hN _ _ ⟨cnt,hc,qav.new hq1,rfl⟩)
 rintro σ' H3 ⟨cnt,hcnt,s3,rfl⟩
 have hS:=s3.seq hS
 have f1:=s3 _ _ f1
 have D3:=D2.same s3
 clear s3 D2
 have zz:100000<=sizeLine:=by decide
 have l4:(Str.ofString "let ").length=4:=by decide +kernel
 have l1:(Str.ofString " ").length=1:=by decide +kernel
 obtain ⟨kv3,ck3,_⟩:=D3.dc
 have npk:p≠pk:=fun e=>by rw [e,ck3] at f1;cases f1
 refine qa5 (fun σ' H'=>∃(m:List (Str×List Nat)) (v6:Option V),SmB pk H3 H'/\qcY cD H' d pk ws m/\Kpt cnt m/\σ'=[some (.ref a),some (.int c0),some (.int (ws.length:Nat)),some (.ref p),some (.ref d),some (.int (cnt:Nat)),v6,none,none,none,none,none,none,none,none]) ?_ fun N hN=>?_
 rotate_left
 . (try walk_at "rd")
   refine ⟨by omega,by omega,?_⟩
   rw [yer]
   refine qiD (fun i σ H'=>∃(m:List (Str×List Nat)) (v6:Option V),SmB pk H3 H'/\qcY cD H' d pk ws m/\Kpt i m/\σ=[some (.ref a),some (.int c0),some (.int (ws.length:Nat)),some (.ref p),some (.ref d),some (.int (cnt:Nat)),v6,none,none,none,none,none,none,none,none]) ⟨[],none,qcL (qav.refl _),D3,Kpt.nil,rfl⟩ ?_ ?_
   . rintro i σ H4 hi ⟨m,v6,s4,D4,K4,rfl⟩ N' hN'
     obtain ⟨dx4,pw4,o4,_⟩:=D4.ob
     have wn:=qlM (k:=i) (by omega)
     have ln:=wn.2.1
     (try walk_at "rd")
     refine ⟨dx4,_,o4,qdf _ _ (by decide +kernel) (by decide +kernel),_,rfl,i,rfl,by omega,_,rfl,by omega,by rw [Str.length_append];omega,qaE (by simp),fun q1 hq1=>⟨by decide,?_⟩⟩
     rw [show (i:Int)%2=((i%2:Nat):Int) from rfl]
     have b2:i%2<2:=ydo _ (by decide)
     obtain ⟨x,fs,ex,et,hF,lx⟩:∃(x:Str) (fs:List Nat),[("none" : Str), "-"][i%2]?=some x/\x=Tx.fT ws fs/\Fml ws.length fs/\x.length<=100:=by
       match i%2,b2 with
       | 0,_=>exact ⟨"none",[],rfl,rfl,qcu hn .nil nofun,by decide +kernel⟩
       | 1,_=>exact ⟨"-",[0],rfl,rfl,qcu hn (yhd _ _) fun b hb=>by rw [ydu.mp hb];exact yah _,by decide +kernel⟩
     have hs:=qbO (ws:=ws) (m:=m) (qrO wn lx) wn (fun w hm=>by rw [ydu.mp hm];omega) (qgI (show Thg ws m "text" x (.fm fs) by rw [et];exact .text hF)) .let hF
     rw [if_pos (.inr (by rw [K4.1];omega)),show Str.ofString "let" ++ " " = Str.ofString "let " by decide +kernel] at hs
     refine qbC (SqL.of qaj) (qf7 ex) ⟨_,rfl,by rw [Str.length_append,Str.length_append];omega,_,_,rfl,d,pk,ws,m,_,.put (nmT i) fs,rfl,D4.same (qav.new hq1),hn,rfl,hs,fun H5 s5 D5=>?_⟩
     (try walk_at "rd")
     exact ⟨false,by simp,qgJ (hN' _ _ ⟨_,_,qa7 (qa7 s4 (qcL (qav.new hq1))) s5,D5,K4.new (by omega) fs,rfl⟩)⟩
   . rintro σ H4 ⟨m,v6,s4,D4,K4,rfl⟩
     exact hN _ _ ⟨m,v6,s4,D4,K4,rfl⟩
 rintro σ' H4 ⟨m0,v6,s4,D4,K4,rfl⟩
 have f1:=s4 _ _ f1 npk
 have hS:=qoy s4 ck3 hS
 clear s4 D3 ck3
 refine qa5 (fun σ' H'=>H4=H'/\σ'=[some (.ref a),some (.int c0),some (.int (ws.length:Nat)),some (.ref p),some (.ref d),some (.int (cnt:Nat)),v6,some (.int (cnt:Nat)),none,none,none,none,none,none,none]) ?_ fun N hN=>?_
 rotate_left
 . (try walk_at "rd")
   exact hN _ _ ⟨rfl,rfl⟩
 rintro σ' H' ⟨rfl,rfl⟩
 refine qa5 (fun σ' H'=>∃(st:Nat) (m:List (Str×List Nat)) (v1 v5 v6 v8 v9 v10 v11 v12 v13 v14:Option V),SmB pk H4 H'/\qcY cD H' d pk ws m/\Kpt st m/\σ'=[some (.ref a),v1,some (.int (ws.length:Nat)),some (.ref p),some (.ref d),v5,v6,some (.int (st:Nat)),v8,v9,v10,v11,v12,v13,v14]) ?_ fun N hN=>?_
 rotate_left
 . (try walk_at "rd")
   refine ⟨_,_,rfl,a,ns,2,rfl,hS,hlen,rfl,by omega,fun c2=>⟨_,_,rfl,a,ns,3,rfl,hS,hlen,rfl,by omega,fun c3=>⟨qaE (by simp),fun q1 hq1=>?_⟩⟩⟩
   generalize g1:upd H4 q1 _=G1
   have b1:=qax g1
   have w1:=qau g1 hq1
   refine ⟨a,_,rfl,w1.seq hS,fun q2 hq2=>?_⟩
   generalize g2:upd G1 q2 _=G2
   have b2:=qax g2
   have w2:=w1.trans (qau g2 hq2)
   have b1:=qau g2 hq2 _ _ b1
   have lc:=qpf (ns.map V.int) (some 4) (some 14)
   rw [ybz] at lc
   refine ⟨q1,q2,_,_,rfl,rfl,SqL.of b1,SqL.of b2,qaE (by simp;omega),fun q3 hq3=>⟨q3,rfl,⟨_,SqL.of qaj⟩,?_⟩⟩
   generalize g3:upd G2 q3 _=G3
   have b3:=qax g3
   have w3:=w2.trans (qau g3 hq3)
   have f3:=w3 _ _ f1
   have D3:=D4.same w3
   obtain ⟨kv3,ck3,_⟩:=D3.dc
   have nq3:q3≠pk:=fun e=>by rw [e,ck3] at b3;cases b3
   have hall:∀x∈[V.int c2,V.int c3]++qjG (ns.map V.int) (some 4) (some 14),∃z,x=V.int z:=fun x hx=>by
     rcases yat.mp hx with y | y
     . simp only [ybd,ydj,or_false] at y
       rcases y with rfl | rfl<;>exact ⟨_,rfl⟩
     . obtain ⟨z,_,rfl⟩:=ybq.mp (qop y)
       exact ⟨z,rfl⟩
   generalize [V.int c2,V.int c3]++qjG (ns.map V.int) (some 4) (some 14)=zs at b3 hall
   clear b1 b2 g1 g2 g3 w1 w2
   refine qi3 (xs:=zs) (fun i σ H'=>∃(st:Nat) (m:List (Str×List Nat)) (v1 v5 v6 v8 v9 v10 v11 v12 v13 v14:Option V),SmB pk G3 H'/\qcY cD H' d pk ws m/\Kpt st m/\σ=[some (.ref a),v1,some (.int (ws.length:Nat)),some (.ref p),some (.ref d),v5,v6,some (.int (st:Nat)),v8,v9,v10,v11,v12,v13,v14]) ⟨cnt,m0,_,_,_,_,_,_,_,_,_,_,qcL (qav.refl _),D3,K4,rfl⟩ (fun i σ H' _ ⟨_,_,_,_,_,_,_,_,_,_,_,_,e,_⟩=>SqL.of (e _ _ b3 nq3)) ?_ ?_
   rotate_left
   . rintro σ H5 ⟨st,m,v1,v5,v6,v8,v9,v10,v11,v12,v13,v14,s5,D5,K5,rfl⟩
     exact hN _ _ ⟨st,m,v1,v5,v6,v8,v9,v10,v11,v12,v13,v14,qa7 (qcL w3) s5,D5,K5,rfl⟩
   rintro i x σ H5 hx ⟨st,m,v1,v5,v6,v8,v9,v10,v11,v12,v13,v14,s5,D5,K5,rfl⟩ N' hN'
   obtain ⟨z,rfl⟩:=hall x (ybv hx)
   have f5:=s5 _ _ f3 npk
   have h20:=K5.2.1
   clear hx
   change qiX _ _ _ _ _
   refine qa5 (fun σ' H'=>H5=H'/\∃nb:Nat,nb<=59/\σ'=[some (.ref a),some (.int z),some (.int (ws.length:Nat)),some (.ref p),some (.ref d),v5,v6,some (.int (st:Nat)),some (.int (nb:Nat)),v9,v10,v11,v12,v13,v14]) ?_ fun N hN=>?_
   rotate_left
   . (try walk_at "rd")
     refine ⟨_,_,rfl,z,12,rfl,rfl,by omega,?_⟩
     (try walk_at "rd")
     exact ⟨by decide,hN _ _ ⟨rfl,qbh z 12%60,by omega,rfl⟩⟩
   rintro σ' H' ⟨rfl,nb,hnb,rfl⟩
   refine qa5 (fun σ' H'=>H5=H'/\σ'=[some (.ref a),some (.int z),some (.int (ws.length:Nat)),some (.ref p),some (.ref d),v5,v6,some (.int (st:Nat)),some (.int (nb:Nat)),some (.str (nmT nb)),v10,v11,v12,v13,v14]) ?_ fun N hN=>?_
   rotate_left
   . (try walk_at "rd")
     exact ⟨_,rfl,nb,rfl,by omega,hN _ _ ⟨rfl,rfl⟩⟩
   rintro σ' H' ⟨rfl,rfl⟩
   refine qa5 (fun σ' H'=>∃(q:Addr) (ps:List Addr),qav H5 H'/\H' q=some (.lst (ps.map V.ref))/\LsS H' [["let", "none"],["let", "-"],["hits", "fa"],["let", "-+"],["hits", "q"]] ps/\σ'=[some (.ref a),some (.int z),some (.int (ws.length:Nat)),some (.ref p),some (.ref d),v5,v6,some (.int (st:Nat)),some (.int (nb:Nat)),some (.str (nmT nb)),some (.ref q),v11,v12,v13,v14]) ?_ fun N hN=>?_
   rotate_left
   . (try walk_at "rd")
     refine ⟨qaE (by simp),fun l1 hl1=>?_⟩
     generalize gg1:upd H5 l1 _=J1
     have aa1:J1 l1=some (.lst (sV ["let", "none"])):=qax gg1
     have tt1:=qau gg1 hl1
     have ls1:=LsS.snoc (LsS.mono (show LsS H5 [] [] from ⟨rfl,fun i r L e1 e2=>by cases e1⟩) tt1) aa1
     refine ⟨qaE (by simp),fun l2 hl2=>?_⟩
     generalize gg2:upd J1 l2 _=J2
     have aa2:J2 l2=some (.lst (sV ["let", "-"])):=qax gg2
     have tt2:=qau gg2 hl2
     have ls2:=LsS.snoc (LsS.mono ls1 tt2) aa2
     refine ⟨qaE (by simp),fun l3 hl3=>?_⟩
     generalize gg3:upd J2 l3 _=J3
     have aa3:J3 l3=some (.lst (sV ["hits", "fa"])):=qax gg3
     have tt3:=qau gg3 hl3
     have ls3:=LsS.snoc (LsS.mono ls2 tt3) aa3
     refine ⟨qaE (by simp),fun l4 hl4=>?_⟩
     generalize gg4:upd J3 l4 _=J4
     have aa4:J4 l4=some (.lst (sV ["let", "-+"])):=qax gg4
     have tt4:=qau gg4 hl4
     have ls4:=LsS.snoc (LsS.mono ls3 tt4) aa4
     refine ⟨qaE (by simp),fun l5 hl5=>?_⟩
     generalize gg5:upd J4 l5 _=J5
     have aa5:J5 l5=some (.lst (sV ["hits", "q"])):=qax gg5
     have tt5:=qau gg5 hl5
     have ls5:=LsS.snoc (LsS.mono ls4 tt5) aa5
     refine ⟨qaE (by simp),fun q hq=>hN _ _ ⟨q,[l1,l2,l3,l4,l5],((((tt1.trans tt2).trans tt3).trans tt4).trans tt5).trans (qav.new hq),qaj,LsS.mono ls5 (qav.new hq),rfl⟩⟩
   rintro σ' H6 ⟨q6,ps,s6,a6,L6,rfl⟩
   refine qa5 (fun σ' H'=>∃(q:Addr) (ps:List Addr),qav H6 H'/\H' q=some (.lst (ps.map V.ref))/\LsS H' [["let", "none"],["let", "-"],["hits", "fa"],["let", "-+"],["hits", "q"],["rests", "fa"],["either", "fa fa"],["both", "fa fa"]] ps/\σ'=[some (.ref a),some (.int z),some (.int (ws.length:Nat)),some (.ref p),some (.ref d),v5,v6,some (.int (st:Nat)),some (.int (nb:Nat)),some (.str (nmT nb)),some (.ref q),v11,v12,v13,v14]) ?_ fun N hN=>?_
   rotate_left
   . (try walk_at "rd")
     refine ⟨qaE (by simp),fun l1 hl1=>?_⟩
     generalize gg1:upd H6 l1 _=J1
     have aa1:J1 l1=some (.lst (sV ["rests", "fa"])):=qax gg1
     have tt1:=qau gg1 hl1
     have ls1:=LsS.snoc (LsS.mono (show LsS H6 [] [] from ⟨rfl,fun i r L e1 e2=>by cases e1⟩) tt1) aa1
     refine ⟨qaE (by simp),fun l2 hl2=>?_⟩
     generalize gg2:upd J1 l2 _=J2
     have aa2:J2 l2=some (.lst (sV ["either", "fa fa"])):=qax gg2
     have tt2:=qau gg2 hl2
     have ls2:=LsS.snoc (LsS.mono ls1 tt2) aa2
     refine ⟨qaE (by simp),fun l3 hl3=>?_⟩
     generalize gg3:upd J2 l3 _=J3
     have aa3:J3 l3=some (.lst (sV ["both", "fa fa"])):=qax gg3
     have tt3:=qau gg3 hl3
     have ls3:=LsS.snoc (LsS.mono ls2 tt3) aa3
     refine ⟨qaE (by simp),fun q hq=>?_⟩
     generalize gq:upd J3 q _=J4
     have aq:=qax gq
     have tq:=((tt1.trans tt2).trans tt3).trans (qau gq hq)
     refine ⟨q6,q,_,_,rfl,rfl,SqL.of (tq _ _ a6),SqL.of aq,qaE (by have:=L6.1;rw [ybz,this];simp),fun q7 hq7=>hN _ _ ⟨q7,ps++[l1,l2,l3],tq.trans (qav.new hq7),?_,?_,rfl⟩⟩
     . rw [qaj,ycz]
       rfl
     . exact LsS.mono (qjN (LsS.mono L6 tq) (LsS.mono ls3 (qau gq hq))) (qav.new hq7)
   rintro σ' H7 ⟨q7,ps7,s7,a7,L7,rfl⟩
   have s7:=s6.trans s7
   clear L6 a6 s6
   refine qa5 (fun σ' H'=>∃(q:Addr) (ps:List Addr) (v11:Option V),qav H7 H'/\H' q=some (.lst (ps.map V.ref))/\LsS H' (rws ws) ps/\σ'=[some (.ref a),some (.int z),some (.int (ws.length:Nat)),some (.ref p),some (.ref d),v5,v6,some (.int (st:Nat)),some (.int (nb:Nat)),some (.str (nmT nb)),some (.ref q),v11,v12,v13,v14]) ?_ fun N hN=>?_
   rotate_left
   . (try walk_at "rd")
     have f7:=s7 _ _ f5
     refine ⟨p,_,rfl,SqL.of f7,fun q1 hq1=>?_⟩
     rw [show some (1:Int)=some ((1:Nat):Int) from rfl,qml,show (sV ws).take 1=sV (ws.take 1) from List.map_take.symm]
     generalize g1:upd H7 q1 _=G1
     have b1:=qax g1
     have t1:=qau g1 hq1
     refine ⟨q1,rfl,⟨_,SqL.of b1⟩,qi3 (xs:=sV (ws.take 1)) (fun i σ H'=>∃(q:Addr) (ps:List Addr) (v11:Option V),qav G1 H'/\H' q=some (.lst (ps.map V.ref))/\LsS H' (([["let", "none"],["let", "-"],["hits", "fa"],["let", "-+"],["hits", "q"],["rests", "fa"],["either", "fa fa"],["both", "fa fa"]]:List (List Str))++(((ws.take 1).take i).map fun w=>[[("in" : Str),Str.ofString "fa " ++ w],[("out" : Str),Str.ofString "fa " ++ w]]).flatten) ps/\σ=[some (.ref a),some (.int z),some (.int (ws.length:Nat)),some (.ref p),some (.ref d),v5,v6,some (.int (st:Nat)),some (.int (nb:Nat)),some (.str (nmT nb)),some (.ref q),v11,v12,v13,v14]) ⟨q7,ps7,v11,qav.refl _,t1 _ _ a7,by simpa using LsS.mono L7 t1,rfl⟩ (fun i σ H' _ ⟨_,_,_,e,_⟩=>SqL.of (e _ _ b1)) ?_ ?_⟩
     . rintro i x σ H8 hx ⟨q,ps,v11,s8,a8,L8,rfl⟩ N'' hN''
       rw [ydr] at hx
       cases ew:(ws.take 1)[i]? with
       | none=>rw [ew] at hx;cases hx
       | some w =>
         rw [ew] at hx
         cases hx
         have wm:=yhe (ybv ew)
         have lw:=(hw.wd w wm).2.1
         have l3:(Str.ofString "fa ").length=3:=by decide +kernel
         have hi:i=0:=by
           have:=(ycd.mp ew).1
           rw [yem] at this
           omega
         (try walk_at "rd")
         refine ⟨by omega,qaE (by simp),fun l1 hl1=>⟨by omega,qaE (by simp),fun l2 hl2=>⟨qaE (by simp),fun q9 hq9=>?_⟩⟩⟩
         generalize gg1:upd H8 l1 _=J1 at hl2 hq9 ⊢
         have aa1:J1 l1=some (.lst (sV [("in" : Str),Str.ofString "fa " ++ w])):=qax gg1
         have tt1:=qau gg1 hl1
         generalize gg2:upd J1 l2 _=J2 at hq9 ⊢
         have aa2:J2 l2=some (.lst (sV [("out" : Str),Str.ofString "fa " ++ w])):=qax gg2
         have tt2:=qau gg2 hl2
         generalize gg3:upd J2 q9 _=J3
         have aa3:J3 q9=some (.lst ([l1,l2].map V.ref)):=qax gg3
         have tt3:=qau gg3 hq9
         have tq:=(tt1.trans tt2).trans tt3
         have l8:=L8.1
         refine ⟨q,q9,_,_,rfl,rfl,SqL.of (tq _ _ a8),SqL.of aa3,qaE (by rw [ybz,l8,hi];simp),fun q10 hq10=>hN'' _ _ ⟨q10,ps++[l1,l2],_,(s8.trans tq).trans (qav.new hq10),by rw [qaj,ycz],?_,rfl⟩⟩
         have l12:LsS J3 [[("in" : Str),Str.ofString "fa " ++ w],[("out" : Str),Str.ofString "fa " ++ w]] [l1,l2]:=LsS.mono (LsS.snoc (LsS.mono (LsS.snoc (show LsS J1 [] [] from ⟨rfl,fun i r L e1 e2=>by cases e1⟩) aa1) tt2) aa2) tt3
         have:=LsS.mono (qjN (LsS.mono L8 tq) l12) (qav.new hq10 (o := .lst (ps.map V.ref++[l1,l2].map V.ref)))
         rw [yfv,ew,ycz,List.flatten_append]
         rw [ycq] at this
         simpa using this
     . rintro σ H8 ⟨q,ps,v11,s8,a8,L8,rfl⟩
       rw [qbv,yco] at L8
       exact hN _ _ ⟨q,ps,v11,t1.trans s8,a8,L8,rfl⟩
   rintro σ' H8 ⟨q8,ps8,v11,s8,a8,L8,rfl⟩
   have s8:=s7.trans s8
   clear L7 a7 s7
   have f8:=s8 _ _ f5
   have D8:=D5.same s8
   have lr:0<(rws ws).length:=by unfold rws;simp
   refine qa5 (fun σ' H'=>H8=H'/\∃way:Nat,way<(rws ws).length/\σ'=[some (.ref a),some (.int z),some (.int (ws.length:Nat)),some (.ref p),some (.ref d),v5,v6,some (.int (st:Nat)),some (.int (nb:Nat)),some (.str (nmT nb)),some (.ref q8),v11,some (.int (way:Nat)),v13,v14]) ?_ fun N hN=>?_
   rotate_left
   . (try walk_at "rd")
     refine ⟨_,_,rfl,z,13,rfl,rfl,by omega,_,.inl (SqL.of a8),?_⟩
     rw [ybz,L8.1]
     (try walk_at "rd")
     rw [show ((qbh z 13:Nat):Int)%(((rws ws).length:Nat):Int)=((qbh z 13%(rws ws).length:Nat):Int) from (Int.natCast_emod _ _).symm]
     exact ⟨by omega,hN _ _ ⟨rfl,qbh z 13%(rws ws).length,ydo _ lr,rfl⟩⟩
   rintro σ' H' ⟨rfl,way,hway,rfl⟩
   obtain ⟨deed,qbM,er⟩:∃deed qbM:Str,(rws ws)[way]?=some [deed,qbM]:=by
     have h:∀L∈rws ws,∃deed qbM:Str,L=[deed,qbM]:=fun L hL=>by
       unfold rws at hL
       rcases yat.mp hL with h | h
       . simp only [ybd,ydj,or_false] at h
         rcases h with h | h | h | h | h | h | h | h<;>exact ⟨_,_,h⟩
       . obtain ⟨l,hl,h⟩:=yga.mp h
         obtain ⟨w,_,rfl⟩:=ybq.mp hl
         simp only [ybd,ydj,or_false] at h
         rcases h with h | h<;>exact ⟨_,_,h⟩
     obtain ⟨deed,qbM,e⟩:=h _ (ycy hway)
     exact ⟨deed,qbM,by rw [ybu hway,e]⟩
   obtain ⟨fd',ld,lrs,hout⟩:=qpx hw hn K5 D5.fm hnb er
   obtain ⟨r,err⟩:∃r,ps8[way]?=some r:=⟨_,ybu (by rw [L8.1];exact hway)⟩
   have fr:=L8.2 way r _ err er
   refine qa5 (fun σ' H'=>H8=H'/\σ'=[some (.ref a),some (.int z),some (.int (ws.length:Nat)),some (.ref p),some (.ref d),v5,v6,some (.int (st:Nat)),some (.int (nb:Nat)),some (.str (nmT nb)),some (.ref q8),v11,some (.int (way:Nat)),some (.ref r),v14]) ?_ fun N hN=>?_
   rotate_left
   . (try walk_at "rd")
     exact qbC (SqL.of a8) (qdP (j:=way) (by rw [ydr,err];rfl)) (hN _ _ ⟨rfl,rfl⟩)
   rintro σ' H' ⟨rfl,rfl⟩
   have wn:=qlM (k:=nb) (by omega)
   have ln:=wn.2.1
   refine qa5 (fun σ' H'=>H8=H'/\σ'=[some (.ref a),some (.int z),some (.int (ws.length:Nat)),some (.ref p),some (.ref d),v5,v6,some (.int (st:Nat)),some (.int (nb:Nat)),some (.str (nmT nb)),some (.ref q8),v11,some (.int (way:Nat)),some (.str (deed ++ " " ++ nmT nb ++ " " ++ qbM)),v14]) ?_ fun N hN=>?_
   rotate_left
   . (try walk_at "rd")
     exact qbC (SqL.of fr) (qf7 (i:=0) rfl) ⟨_,rfl,by omega,by rw [Str.length_append];omega,by rw [Str.length_append,Str.length_append];omega,qbC (SqL.of fr) (qf7 (i:=1) rfl) ⟨_,rfl,by simp only [Str.length_append];omega,hN _ _ ⟨rfl,rfl⟩⟩⟩
   rintro σ' H' ⟨rfl,rfl⟩
   refine qa5 (fun σ' H'=>H8=H'/\σ'=[some (.ref a),some (.int z),some (.int (ws.length:Nat)),some (.ref p),some (.ref d),v5,v6,some (.int (st:Nat)),some (.int (nb:Nat)),some (.str (nmT nb)),some (.ref q8),v11,some (.int (way:Nat)),some (.str (deed ++ " " ++ nmT nb ++ " " ++ qbM)),some (.str (Str.ofString "ok"))]) ?_ fun N hN=>?_
   rotate_left
   . (try walk_at "rd")
     exact hN _ _ ⟨rfl,rfl⟩
   rintro σ' H' ⟨rfl,rfl⟩
   refine qa5 (fun σ' H'=>H8=H'/\σ'=[some (.ref a),some (.int z),some (.int (ws.length:Nat)),some (.ref p),some (.ref d),v5,v6,some (.int (st:Nat)),some (.int (nb:Nat)),some (.str (nmT (tgt st nb))),some (.ref q8),v11,some (.int (way:Nat)),some (.str (deed ++ " " ++ nmT (tgt st nb) ++ " " ++ qbM)),some (.str (if st<=nb/\st=20 then Str.ofString "full" else Str.ofString "ok"))]) ?_ fun N hN=>?_
   rotate_left
   . (try walk_at "rd")
     by_cases h1:st<=nb
     . rw [if_pos (by omega)]
       by_cases h2:st=20
       . have et:tgt st nb=nb:=by unfold tgt;rw [if_neg (by omega),if_pos h2]
         rw [if_pos (by omega)]
         exact hN _ _ ⟨rfl,by rw [et,if_pos ⟨h1,h2⟩]⟩
       . have et:tgt st nb=st:=by unfold tgt;rw [if_neg (by omega),if_neg h2]
         have ws':=qlM (k:=st) (by omega)
         have ls:=ws'.2.1
         have s1b:=ws'.1
         have n1b:=wn.1
         have sp:Tx.sg (Str.ofString " ")=[32]:=by decide +kernel
         have rp:=Tx.repl_one (x:=deed ++ " " ++ nmT nb ++ " " ++ qbM) (y:=Str.ofString " " ++ nmT nb++Str.ofString " ") (a:=deed) (b:=qbM) (c:=32) (r:=Tx.sg (nmT nb)++[32]) (by simp only [Tx.sg_app,ycq]) (by rw [Tx.sg_app,Tx.sg_app,sp];rfl) fd'
         have er':deed ++ " " ++ nmT st ++ " " ++ qbM=deed++(Str.ofString " " ++ nmT st++Str.ofString " ")++qbM:=by simp only [qcI]
         rw [if_neg (by omega),if_pos (by omega)]
         refine ⟨_,rfl,st,rfl,by omega,_,rfl,nb,rfl,by omega,_,rfl,by omega,by rw [Str.length_append];omega,by rw [Str.length_append];omega,_,rfl,by omega,by rw [Str.length_append];omega,by rw [Str.length_append];omega,deed ++ " " ++ nmT st ++ " " ++ qbM,deed.length,rp.1,by rw [rp.2,er'],fun e=>?_,?_,?_,hN _ _ ⟨rfl,by rw [et,if_neg fun z=>h2 z.2]⟩⟩
         . rw [er',<-e]
           simp only [qcI]
         . simp only [Str.length_append,show (" " : Str).length=1 from l1]
           omega
         . simp only [Str.length_append,show (" " : Str).length=1 from l1]
           omega
     . have et:tgt st nb=nb:=by unfold tgt;rw [if_pos (by omega)]
       rw [if_neg (by omega),if_neg (by omega)]
       exact hN _ _ ⟨rfl,by rw [et,if_neg fun z=>h1 z.1]⟩
   rintro σ' H' ⟨rfl,rfl⟩
   refine qa5 (fun σ' H'=>H8=H'/\∃o:Str,(o=if way=3 then Str.ofString "text" else if st<=nb/\st=20 then Str.ofString "full" else Str.ofString "ok")/\σ'=[some (.ref a),some (.int z),some (.int (ws.length:Nat)),some (.ref p),some (.ref d),v5,v6,some (.int (st:Nat)),some (.int (nb:Nat)),some (.str (nmT (tgt st nb))),some (.ref q8),v11,some (.int (way:Nat)),some (.str (deed ++ " " ++ nmT (tgt st nb) ++ " " ++ qbM)),some (.str o)]) ?_ fun N hN=>?_
   rotate_left
   . (try walk_at "rd")
     by_cases h3:way=3
     . rw [if_pos (by omega)]
       exact hN _ _ ⟨rfl,_,by rw [if_pos h3],rfl⟩
     . rw [if_neg (by omega)]
       exact hN _ _ ⟨rfl,_,by rw [if_neg h3],rfl⟩
   rintro σ' H' ⟨rfl,o,eo,rfl⟩
   refine qa5 (fun σ' H'=>H8=H'/\σ'=[some (.ref a),some (.int z),some (.int (ws.length:Nat)),some (.ref p),some (.ref d),v5,v6,some (.int (st:Nat)),some (.int (nb:Nat)),some (.str (nmT (tgt st nb))),some (.ref q8),v11,some (.int (way:Nat)),some (.str (deed ++ " " ++ nmT (tgt st nb) ++ " " ++ qbM)),some (.str (qfD st nb way))]) ?_ fun N hN=>?_
   rotate_left
   . (try walk_at "rd")
     have ky:(way=4\/(way=2\/4<way)/\st=0)->qfD st nb way=Str.ofString "family" := fun h=>if_pos h
     have kn:¬(way=4\/(way=2\/4<way)/\st=0)->qfD st nb way=o:=fun h=>by unfold qfD;rw [if_neg h,eo]
     by_cases w4:way=4
     . rw [if_pos (by omega)]
       exact hN _ _ ⟨rfl,by rw [ky (by omega)]⟩
     rw [if_neg (by omega)]
     by_cases w2:way=2
     . rw [if_pos (by omega)]
       by_cases s0:st=0
       . rw [if_pos (by omega)]
         exact hN _ _ ⟨rfl,by rw [ky (by omega)]⟩
       . rw [if_neg (by omega)]
         exact hN _ _ ⟨rfl,by rw [kn (by omega)]⟩
     rw [if_neg (by omega)]
     by_cases w5:4<way
     . rw [if_pos (by omega)]
       by_cases s0:st=0
       . rw [if_pos (by omega)]
         exact hN _ _ ⟨rfl,by rw [ky (by omega)]⟩
       . rw [if_neg (by omega)]
         exact hN _ _ ⟨rfl,by rw [kn (by omega)]⟩
     . rw [if_neg (by omega)]
       exact hN _ _ ⟨rfl,by rw [kn (by omega)]⟩
   rintro σ' H' ⟨rfl,rfl⟩
   obtain ⟨o,hsay,hres,hans,hput⟩:=hout
   (try walk_at "rd")
   refine ⟨_,_,rfl,d,pk,ws,m,_,o,rfl,D8,hn,rfl,hsay,?_⟩
   cases o with
   | ans=>exact absurd rfl hans
   | tx =>
     intro H9 s9
     rw [<-hres]
     (try walk_at "rd")
     refine ⟨false,by simp [qpU],qgJ ?_⟩
     rw [if_neg (by decide +kernel)]
     exact hN' _ _ ⟨st,m,_,_,_,_,_,_,_,_,_,_,qa7 (qa7 s5 (qcL s8)) (qcL s9),D8.same s9,K5,rfl⟩
   | fy =>
     intro H9 s9
     rw [<-hres]
     (try walk_at "rd")
     refine ⟨false,by simp [qpU],qgJ ?_⟩
     rw [if_neg (by decide +kernel)]
     exact hN' _ _ ⟨st,m,_,_,_,_,_,_,_,_,_,_,qa7 (qa7 s5 (qcL s8)) (qcL s9),D8.same s9,K5,rfl⟩
   | fl =>
     intro H9 s9
     rw [<-hres]
     (try walk_at "rd")
     refine ⟨false,by simp [qpU],qgJ ?_⟩
     rw [if_neg (by decide +kernel)]
     exact hN' _ _ ⟨st,m,_,_,_,_,_,_,_,_,_,_,qa7 (qa7 s5 (qcL s8)) (qcL s9),D8.same s9,K5,rfl⟩
   | put n' gs =>
     obtain ⟨rfl,ht⟩:=hput _ _ rfl
     intro H9 s9 D9
     have s9:=qa7 (qa7 s5 (qcL s8)) s9
     rw [<-hres]
     (try walk_at "rd")
     refine ⟨false,by simp [qpU],qgJ ?_⟩
     rw [if_pos (show qpU (Res.put (nmT (tgt st nb)) gs)=Str.ofString "ok" from rfl)]
     refine ⟨_,rfl,st,rfl,by omega,?_⟩
     (try walk_at "rd")
     by_cases e:tgt st nb=st
     . rw [if_pos (by rw [e])]
       refine hN' _ _ ⟨st+1,_,_,_,_,_,_,_,_,_,_,_,s9,D9,?_,rfl⟩
       rw [e]
       exact K5.new (by omega) gs
     . rw [if_neg fun h=>e (qnU (qkR hnb h20) (by omega) h)]
       exact hN' _ _ ⟨st,_,_,_,_,_,_,_,_,_,_,_,s9,D9,K5.put (by omega) gs,rfl⟩
 rintro σ' H5 ⟨st,m,v1,v5,v6,v8,v9,v10,v11,v12,v13,v14,s5,D5,K5,rfl⟩
 have h20:=K5.2.1
 have l6:(Str.ofString "turns ").length=6:=by decide +kernel
 (try walk_at "rd")
 refine ⟨by decide,by decide,?_⟩
 rw [show Int.toNat 60=60 from rfl]
 refine qiD (fun i σ H'=>∃v6:Option V,qav H5 H'/\σ=[some (.ref a),v1,some (.int (ws.length:Nat)),some (.ref p),some (.ref d),v5,v6,some (.int (st:Nat)),v8,v9,v10,v11,v12,v13,v14]) ⟨v6,qav.refl _,rfl⟩ ?_ ?_
 . rintro i σ H6 hi ⟨v6,s6,rfl⟩ N' hN'
   have wn:=qlM (k:=i) (by omega)
   have ln:=wn.2.1
   have hP:Prt (Str.ofString "turns " ++ nmT i) "turns" [nmT i] ["family"]:=by
     have e:Str.ofString "turns " ++ nmT i=pre ["turns"] (nmT i):=by
       show _=("turns" : Str) ++ " " ++ nmT i
       rw [show ("turns" : Str) ++ " " = Str.ofString "turns " by decide +kernel]
     rw [e]
     refine qhR (ds:=[]) (by decide +kernel) (by decide +kernel) (by decide +kernel) (wn.free (by decide)) rfl ?_
     rw [<-e,Str.length_append]
     omega
   have hL:∀w∈[nmT i],w.length<=900:=fun w hm=>by rw [ydu.mp hm];omega
   have hh:=K5.has (k:=i) (by omega)
   (try walk_at "rd")
   refine ⟨_,rfl,i,rfl,by omega,_,rfl,by omega,?_⟩
   cases e:m.lookup (nmT i) with
   | some fs =>
     have c:i<st:=hh.mp (by rw [e];simp)
     refine ⟨_,_,rfl,d,pk,ws,m,_,.ans,rfl,D5.same s6,hn,rfl,⟨"turns",_,_,[.fm fs],hP,hL,fun j k w th h1 h2 h3=>?_,rfl,rfl,rfl,fs,rfl,D5.fm _ _ e⟩,fun H7 s7=>?_⟩
     . cases j with
       | zero=>cases h1;cases h2;cases h3;exact .fam e
       | succ j=>cases h3
     (try walk_at "rd")
     exact ⟨false,by simp [c],qgJ (hN' _ _ ⟨_,s6.trans s7,rfl⟩)⟩
   | none =>
     have c:¬i<st:=fun h=>hh.mpr h e
     refine ⟨_,_,rfl,d,pk,ws,m,_,.fy,rfl,D5.same s6,hn,rfl,⟨"turns",_,_,[],hP,hL,fun j k w th h1 h2 h3=>(by cases h3),nmT i,rfl,rfl,e⟩,fun H7 s7=>?_⟩
     (try walk_at "rd")
     exact ⟨false,by simp [c,show ¬Str.ofString "family" = Str.ofString "ok" by decide +kernel],qgJ (hN' _ _ ⟨_,s6.trans s7,rfl⟩)⟩
 . rintro σ H6 ⟨v6,s6,rfl⟩
   (try walk_at "rd")
   exact q _
end
def all_mk {l:W.OpenLaw} {w:World} {K:W.Frag} {h:Heap} {mg:Str->Option Value} {fa:Addr} (X:K.In h) (G:h.Ns mainGlobals mg) (hfa:mg "law" = some (.ref fa))
   {cD aW cX cN cF cH cO cM:Addr}
   {f_33:Addr} {od_33 an_33:Option Addr} {sl_33:Array (Option Value)} {oc_33 kV_33 dc_33 pm_33 cd_33 ct_33:Value}
   {f_24:Addr} {od_24 an_24:Option Addr} {sl_24:Array (Option Value)} {oc_24 kV_24 dc_24 pm_24 cd_24 ct_24:Value}
   {f_34:Addr} {od_34 an_34:Option Addr} {sl_34:Array (Option Value)} {oc_34 kV_34 dc_34 pm_34 cd_34 ct_34:Value}
   {f_18:Addr} {od_18 an_18:Option Addr} {sl_18:Array (Option Value)} {oc_18 kV_18 dc_18 pm_18 cd_18 ct_18:Value}
   {f_47:Addr} {od_47 an_47:Option Addr} {sl_47:Array (Option Value)} {oc_47 kV_47 dc_47 pm_47 cd_47 ct_47:Value}
   {f_25:Addr} {od_25 an_25:Option Addr} {sl_25:Array (Option Value)} {oc_25 kV_25 dc_25 pm_25 cd_25 ct_25:Value}
   {f_35:Addr} {od_35 an_35:Option Addr} {sl_35:Array (Option Value)} {oc_35 kV_35 dc_35 pm_35 cd_35 ct_35:Value}
   {f_48:Addr} {od_48 an_48:Option Addr} {sl_48:Array (Option Value)} {oc_48 kV_48 dc_48 pm_48 cd_48 ct_48:Value}
   {f_49:Addr} {od_49 an_49:Option Addr} {sl_49:Array (Option Value)} {oc_49 kV_49 dc_49 pm_49 cd_49 ct_49:Value}
   {f_44:Addr} {od_44 an_44:Option Addr} {sl_44:Array (Option Value)} {oc_44 kV_44 dc_44 pm_44 cd_44 ct_44:Value}
   {f_19:Addr} {od_19 an_19:Option Addr} {sl_19:Array (Option Value)} {oc_19 kV_19 dc_19 pm_19 cd_19 ct_19:Value}
   {f_26:Addr} {od_26 an_26:Option Addr} {sl_26:Array (Option Value)} {oc_26 kV_26 dc_26 pm_26 cd_26 ct_26:Value}
   {f_36:Addr} {od_36 an_36:Option Addr} {sl_36:Array (Option Value)} {oc_36 kV_36 dc_36 pm_36 cd_36 ct_36:Value}
   {f_13:Addr} {od_13 an_13:Option Addr} {sl_13:Array (Option Value)} {oc_13 kV_13 dc_13 pm_13 cd_13 ct_13:Value}
   {f_37:Addr} {od_37 an_37:Option Addr} {sl_37:Array (Option Value)} {oc_37 kV_37 dc_37 pm_37 cd_37 ct_37:Value}
   {f_14:Addr} {od_14 an_14:Option Addr} {sl_14:Array (Option Value)} {oc_14 kV_14 dc_14 pm_14 cd_14 ct_14:Value}
   {f_54:Addr} {od_54 an_54:Option Addr} {sl_54:Array (Option Value)} {oc_54 kV_54 dc_54 pm_54 cd_54 ct_54:Value}
   {f_55:Addr} {od_55 an_55:Option Addr} {sl_55:Array (Option Value)} {oc_55 kV_55 dc_55 pm_55 cd_55 ct_55:Value}
   {f_60:Addr} {od_60 an_60:Option Addr} {sl_60:Array (Option Value)} {oc_60 kV_60 dc_60 pm_60 cd_60 ct_60:Value}
   {f_61:Addr} {od_61 an_61:Option Addr} {sl_61:Array (Option Value)} {oc_61 kV_61 dc_61 pm_61 cd_61 ct_61:Value}
   {f_56:Addr} {od_56 an_56:Option Addr} {sl_56:Array (Option Value)} {oc_56 kV_56 dc_56 pm_56 cd_56 ct_56:Value}
   {f_57:Addr} {od_57 an_57:Option Addr} {sl_57:Array (Option Value)} {oc_57 kV_57 dc_57 pm_57 cd_57 ct_57:Value}
   {f_10:Addr} {od_10 an_10:Option Addr} {sl_10:Array (Option Value)} {oc_10 kV_10 dc_10 pm_10 cd_10 ct_10:Value}
   {f_62:Addr} {od_62 an_62:Option Addr} {sl_62:Array (Option Value)} {oc_62 kV_62 dc_62 pm_62 cd_62 ct_62:Value}
   {f_27:Addr} {od_27 an_27:Option Addr} {sl_27:Array (Option Value)} {oc_27 kV_27 dc_27 pm_27 cd_27 ct_27:Value}
   {f_20:Addr} {od_20 an_20:Option Addr} {sl_20:Array (Option Value)} {oc_20 kV_20 dc_20 pm_20 cd_20 ct_20:Value}
   {f_50:Addr} {od_50 an_50:Option Addr} {sl_50:Array (Option Value)} {oc_50 kV_50 dc_50 pm_50 cd_50 ct_50:Value}
   {f_63:Addr} {od_63 an_63:Option Addr} {sl_63:Array (Option Value)} {oc_63 kV_63 dc_63 pm_63 cd_63 ct_63:Value}
   {f_00:Addr} {od_00 an_00:Option Addr} {sl_00:Array (Option Value)} {oc_00 kV_00 dc_00 pm_00 cd_00 ct_00:Value}
   {f_51:Addr} {od_51 an_51:Option Addr} {sl_51:Array (Option Value)} {oc_51 kV_51 dc_51 pm_51 cd_51 ct_51:Value}
   {f_04:Addr} {od_04 an_04:Option Addr} {sl_04:Array (Option Value)} {oc_04 kV_04 dc_04 pm_04 cd_04 ct_04:Value}
   {f_64:Addr} {od_64 an_64:Option Addr} {sl_64:Array (Option Value)} {oc_64 kV_64 dc_64 pm_64 cd_64 ct_64:Value}
   {f_38:Addr} {od_38 an_38:Option Addr} {sl_38:Array (Option Value)} {oc_38 kV_38 dc_38 pm_38 cd_38 ct_38:Value}
   {f_45:Addr} {od_45 an_45:Option Addr} {sl_45:Array (Option Value)} {oc_45 kV_45 dc_45 pm_45 cd_45 ct_45:Value}
   {f_06:Addr} {od_06 an_06:Option Addr} {sl_06:Array (Option Value)} {oc_06 kV_06 dc_06 pm_06 cd_06 ct_06:Value}
   {f_15:Addr} {od_15 an_15:Option Addr} {sl_15:Array (Option Value)} {oc_15 kV_15 dc_15 pm_15 cd_15 ct_15:Value}
   {f_39:Addr} {od_39 an_39:Option Addr} {sl_39:Array (Option Value)} {oc_39 kV_39 dc_39 pm_39 cd_39 ct_39:Value}
   {f_28:Addr} {od_28 an_28:Option Addr} {sl_28:Array (Option Value)} {oc_28 kV_28 dc_28 pm_28 cd_28 ct_28:Value}
   {f_58:Addr} {od_58 an_58:Option Addr} {sl_58:Array (Option Value)} {oc_58 kV_58 dc_58 pm_58 cd_58 ct_58:Value}
   {f_11:Addr} {od_11 an_11:Option Addr} {sl_11:Array (Option Value)} {oc_11 kV_11 dc_11 pm_11 cd_11 ct_11:Value}
   {f_01:Addr} {od_01 an_01:Option Addr} {sl_01:Array (Option Value)} {oc_01 kV_01 dc_01 pm_01 cd_01 ct_01:Value}
   {f_16:Addr} {od_16 an_16:Option Addr} {sl_16:Array (Option Value)} {oc_16 kV_16 dc_16 pm_16 cd_16 ct_16:Value}
   {f_52:Addr} {od_52 an_52:Option Addr} {sl_52:Array (Option Value)} {oc_52 kV_52 dc_52 pm_52 cd_52 ct_52:Value}
   {f_59:Addr} {od_59 an_59:Option Addr} {sl_59:Array (Option Value)} {oc_59 kV_59 dc_59 pm_59 cd_59 ct_59:Value}
   {f_21:Addr} {od_21 an_21:Option Addr} {sl_21:Array (Option Value)} {oc_21 kV_21 dc_21 pm_21 cd_21 ct_21:Value}
   {f_22:Addr} {od_22 an_22:Option Addr} {sl_22:Array (Option Value)} {oc_22 kV_22 dc_22 pm_22 cd_22 ct_22:Value}
   {f_29:Addr} {od_29 an_29:Option Addr} {sl_29:Array (Option Value)} {oc_29 kV_29 dc_29 pm_29 cd_29 ct_29:Value}
   {f_53:Addr} {od_53 an_53:Option Addr} {sl_53:Array (Option Value)} {oc_53 kV_53 dc_53 pm_53 cd_53 ct_53:Value}
   {f_17:Addr} {od_17 an_17:Option Addr} {sl_17:Array (Option Value)} {oc_17 kV_17 dc_17 pm_17 cd_17 ct_17:Value}
   {f_07:Addr} {od_07 an_07:Option Addr} {sl_07:Array (Option Value)} {oc_07 kV_07 dc_07 pm_07 cd_07 ct_07:Value}
   {f_30:Addr} {od_30 an_30:Option Addr} {sl_30:Array (Option Value)} {oc_30 kV_30 dc_30 pm_30 cd_30 ct_30:Value}
   {f_46:Addr} {od_46 an_46:Option Addr} {sl_46:Array (Option Value)} {oc_46 kV_46 dc_46 pm_46 cd_46 ct_46:Value}
   {f_23:Addr} {od_23 an_23:Option Addr} {sl_23:Array (Option Value)} {oc_23 kV_23 dc_23 pm_23 cd_23 ct_23:Value}
   {f_12:Addr} {od_12 an_12:Option Addr} {sl_12:Array (Option Value)} {oc_12 kV_12 dc_12 pm_12 cd_12 ct_12:Value}
   {f_03:Addr} {od_03 an_03:Option Addr} {sl_03:Array (Option Value)} {oc_03 kV_03 dc_03 pm_03 cd_03 ct_03:Value}
   {f_40:Addr} {od_40 an_40:Option Addr} {sl_40:Array (Option Value)} {oc_40 kV_40 dc_40 pm_40 cd_40 ct_40:Value}
   {f_41:Addr} {od_41 an_41:Option Addr} {sl_41:Array (Option Value)} {oc_41 kV_41 dc_41 pm_41 cd_41 ct_41:Value}
   {f_08:Addr} {od_08 an_08:Option Addr} {sl_08:Array (Option Value)} {oc_08 kV_08 dc_08 pm_08 cd_08 ct_08:Value}
   {f_05:Addr} {od_05 an_05:Option Addr} {sl_05:Array (Option Value)} {oc_05 kV_05 dc_05 pm_05 cd_05 ct_05:Value}
   {f_02:Addr} {od_02 an_02:Option Addr} {sl_02:Array (Option Value)} {oc_02 kV_02 dc_02 pm_02 cd_02 ct_02:Value}
   {f_09:Addr} {od_09 an_09:Option Addr} {sl_09:Array (Option Value)} {oc_09 kV_09 dc_09 pm_09 cd_09 ct_09:Value}
   {f_65:Addr} {od_65 an_65:Option Addr} {sl_65:Array (Option Value)} {oc_65 kV_65 dc_65 pm_65 cd_65 ct_65:Value}
   {f_42:Addr} {od_42 an_42:Option Addr} {sl_42:Array (Option Value)} {oc_42 kV_42 dc_42 pm_42 cd_42 ct_42:Value}
   {f_43:Addr} {od_43 an_43:Option Addr} {sl_43:Array (Option Value)} {oc_43 kV_43 dc_43 pm_43 cd_43 ct_43:Value}
   {f_31:Addr} {od_31 an_31:Option Addr} {sl_31:Array (Option Value)} {oc_31 kV_31 dc_31 pm_31 cd_31 ct_31:Value}
   {f_32:Addr} {od_32 an_32:Option Addr} {sl_32:Array (Option Value)} {oc_32 kV_32 dc_32 pm_32 cd_32 ct_32:Value}
   {f_law:Addr} {od_law an_law:Option Addr} {sl_law:Array (Option Value)} {oc_law kV_law dc_law pm_law cd_law ct_law:Value}
   (a_33:W.nsIn K mainGlobals "is_whole" = some (some (.ref f_33))) (l_33:K.lookup f_33=some ⟨oc_33,od_33,.func (W.fnOf "is_whole" "is_whole" (qah qbR) (qag qbR) (qab qbR) .none kV_33 dc_33 pm_33 an_33 cd_33 ct_33),sl_33⟩) (c_33:W.codeIn K cd_33 "is_whole" = true) (k_33:W.keepIn K (.ref f_33)=true)
   (a_24:W.nsIn K mainGlobals "_law_cell" = some (some (.ref f_24))) (l_24:K.lookup f_24=some ⟨oc_24,od_24,.func (W.fnOf "_law_cell" "_law_cell" (qah qbE) (qag qbE) (qab qbE) .none kV_24 dc_24 pm_24 an_24 cd_24 ct_24),sl_24⟩) (c_24:W.codeIn K cd_24 "_law_cell" = true) (k_24:W.keepIn K (.ref f_24)=true)
   (a_34:W.nsIn K mainGlobals "_law_mix" = some (some (.ref f_34))) (l_34:K.lookup f_34=some ⟨oc_34,od_34,.func (W.fnOf "_law_mix" "_law_mix" (qah qbV) (qag qbV) (qab qbV) .none kV_34 dc_34 pm_34 an_34 cd_34 ct_34),sl_34⟩) (c_34:W.codeIn K cd_34 "_law_mix" = true) (k_34:W.keepIn K (.ref f_34)=true)
   (a_18:W.nsIn K mainGlobals "_law_words" = some (some (.ref f_18))) (l_18:K.lookup f_18=some ⟨oc_18,od_18,.func (W.fnOf "_law_words" "_law_words" (qah qbk) (qag qbk) (qab qbk) .none kV_18 dc_18 pm_18 an_18 cd_18 ct_18),sl_18⟩) (c_18:W.codeIn K cd_18 "_law_words" = true) (k_18:W.keepIn K (.ref f_18)=true)
   (a_47:W.nsIn K mainGlobals "is_set" = some (some (.ref f_47))) (l_47:K.lookup f_47=some ⟨oc_47,od_47,.func (W.fnOf "is_set" "is_set" (qah qcT) (qag qcT) (qab qcT) .none kV_47 dc_47 pm_47 an_47 cd_47 ct_47),sl_47⟩) (c_47:W.codeIn K cd_47 "is_set" = true) (k_47:W.keepIn K (.ref f_47)=true)
   (a_25:W.nsIn K mainGlobals "is_family" = some (some (.ref f_25))) (l_25:K.lookup f_25=some ⟨oc_25,od_25,.func (W.fnOf "is_family" "is_family" (qah qbD) (qag qbD) (qab qbD) .none kV_25 dc_25 pm_25 an_25 cd_25 ct_25),sl_25⟩) (c_25:W.codeIn K cd_25 "is_family" = true) (k_25:W.keepIn K (.ref f_25)=true)
   (a_35:W.nsIn K mainGlobals "names_in" = some (some (.ref f_35))) (l_35:K.lookup f_35=some ⟨oc_35,od_35,.func (W.fnOf "names_in" "names_in" (qah qbY) (qag qbY) (qab qbY) .none kV_35 dc_35 pm_35 an_35 cd_35 ct_35),sl_35⟩) (c_35:W.codeIn K cd_35 "names_in" = true) (k_35:W.keepIn K (.ref f_35)=true)
   (a_48:W.nsIn K mainGlobals "set_of" = some (some (.ref f_48))) (l_48:K.lookup f_48=some ⟨oc_48,od_48,.func (W.fnOf "set_of" "set_of" (qah qcS) (qag qcS) (qab qcS) .none kV_48 dc_48 pm_48 an_48 cd_48 ct_48),sl_48⟩) (c_48:W.codeIn K cd_48 "set_of" = true) (k_48:W.keepIn K (.ref f_48)=true)
   (a_49:W.nsIn K mainGlobals "parted" = some (some (.ref f_49))) (l_49:K.lookup f_49=some ⟨oc_49,od_49,.func (W.fnOf "parted" "parted" (qah qcX) (qag qcX) (qab qcX) .none kV_49 dc_49 pm_49 an_49 cd_49 ct_49),sl_49⟩) (c_49:W.codeIn K cd_49 "parted" = true) (k_49:W.keepIn K (.ref f_49)=true)
   (a_44:W.nsIn K mainGlobals "is_word" = some (some (.ref f_44))) (l_44:K.lookup f_44=some ⟨oc_44,od_44,.func (W.fnOf "is_word" "is_word" (qah qce) (qag qce) (qab qce) .none kV_44 dc_44 pm_44 an_44 cd_44 ct_44),sl_44⟩) (c_44:W.codeIn K cd_44 "is_word" = true) (k_44:W.keepIn K (.ref f_44)=true)
   (a_19:W.nsIn K mainGlobals "read_names" = some (some (.ref f_19))) (l_19:K.lookup f_19=some ⟨oc_19,od_19,.func (W.fnOf "read_names" "read_names" (qah qbp) (qag qbp) (qab qbp) .none kV_19 dc_19 pm_19 an_19 cd_19 ct_19),sl_19⟩) (c_19:W.codeIn K cd_19 "read_names" = true) (k_19:W.keepIn K (.ref f_19)=true)
   (a_26:W.nsIn K mainGlobals "read_name" = some (some (.ref f_26))) (l_26:K.lookup f_26=some ⟨oc_26,od_26,.func (W.fnOf "read_name" "read_name" (qah qbH) (qag qbH) (qab qbH) .none kV_26 dc_26 pm_26 an_26 cd_26 ct_26),sl_26⟩) (c_26:W.codeIn K cd_26 "read_name" = true) (k_26:W.keepIn K (.ref f_26)=true)
   (a_36:W.nsIn K mainGlobals "show_set" = some (some (.ref f_36))) (l_36:K.lookup f_36=some ⟨oc_36,od_36,.func (W.fnOf "show_set" "show_set" (qah qbP) (qag qbP) (qab qbP) .none kV_36 dc_36 pm_36 an_36 cd_36 ct_36),sl_36⟩) (c_36:W.codeIn K cd_36 "show_set" = true) (k_36:W.keepIn K (.ref f_36)=true)
   (a_13:W.nsIn K mainGlobals "show_family" = some (some (.ref f_13))) (l_13:K.lookup f_13=some ⟨oc_13,od_13,.func (W.fnOf "show_family" "show_family" (qah qbc) (qag qbc) (qab qbc) .none kV_13 dc_13 pm_13 an_13 cd_13 ct_13),sl_13⟩) (c_13:W.codeIn K cd_13 "show_family" = true) (k_13:W.keepIn K (.ref f_13)=true)
   (a_37:W.nsIn K mainGlobals "read_set" = some (some (.ref f_37))) (l_37:K.lookup f_37=some ⟨oc_37,od_37,.func (W.fnOf "read_set" "read_set" (qah qbW) (qag qbW) (qab qbW) .none kV_37 dc_37 pm_37 an_37 cd_37 ct_37),sl_37⟩) (c_37:W.codeIn K cd_37 "read_set" = true) (k_37:W.keepIn K (.ref f_37)=true)
   (a_14:W.nsIn K mainGlobals "read_family" = some (some (.ref f_14))) (l_14:K.lookup f_14=some ⟨oc_14,od_14,.func (W.fnOf "read_family" "read_family" (qah qbd) (qag qbd) (qab qbd) .none kV_14 dc_14 pm_14 an_14 cd_14 ct_14),sl_14⟩) (c_14:W.codeIn K cd_14 "read_family" = true) (k_14:W.keepIn K (.ref f_14)=true)
   (a_54:W.nsIn K mainGlobals "holds" = some (some (.ref f_54))) (l_54:K.lookup f_54=some ⟨oc_54,od_54,.func (W.fnOf "holds" "holds" (qah qdX) (qag qdX) (qab qdX) .none kV_54 dc_54 pm_54 an_54 cd_54 ct_54),sl_54⟩) (c_54:W.codeIn K cd_54 "holds" = true) (k_54:W.keepIn K (.ref f_54)=true)
   (a_55:W.nsIn K mainGlobals "meets" = some (some (.ref f_55))) (l_55:K.lookup f_55=some ⟨oc_55,od_55,.func (W.fnOf "meets" "meets" (qah qdO) (qag qdO) (qab qdO) .none kV_55 dc_55 pm_55 an_55 cd_55 ct_55),sl_55⟩) (c_55:W.codeIn K cd_55 "meets" = true) (k_55:W.keepIn K (.ref f_55)=true)
   (a_60:W.nsIn K mainGlobals "rest" = some (some (.ref f_60))) (l_60:K.lookup f_60=some ⟨oc_60,od_60,.func (W.fnOf "rest" "rest" (qah qfZ) (qag qfZ) (qab qfZ) .none kV_60 dc_60 pm_60 an_60 cd_60 ct_60),sl_60⟩) (c_60:W.codeIn K cd_60 "rest" = true) (k_60:W.keepIn K (.ref f_60)=true)
   (a_61:W.nsIn K mainGlobals "says" = some (some (.ref f_61))) (l_61:K.lookup f_61=some ⟨oc_61,od_61,.func (W.fnOf "says" "says" (qah qfP) (qag qfP) (qab qfP) .none kV_61 dc_61 pm_61 an_61 cd_61 ct_61),sl_61⟩) (c_61:W.codeIn K cd_61 "says" = true) (k_61:W.keepIn K (.ref f_61)=true)
   (a_56:W.nsIn K mainGlobals "least" = some (some (.ref f_56))) (l_56:K.lookup f_56=some ⟨oc_56,od_56,.func (W.fnOf "least" "least" (qah qd0) (qag qd0) (qab qd0) .none kV_56 dc_56 pm_56 an_56 cd_56 ct_56),sl_56⟩) (c_56:W.codeIn K cd_56 "least" = true) (k_56:W.keepIn K (.ref f_56)=true)
   (a_57:W.nsIn K mainGlobals "rests" = some (some (.ref f_57))) (l_57:K.lookup f_57=some ⟨oc_57,od_57,.func (W.fnOf "rests" "rests" (qah qdL) (qag qdL) (qab qdL) .none kV_57 dc_57 pm_57 an_57 cd_57 ct_57),sl_57⟩) (c_57:W.codeIn K cd_57 "rests" = true) (k_57:W.keepIn K (.ref f_57)=true)
   (a_10:W.nsIn K mainGlobals "first_missed" = some (some (.ref f_10))) (l_10:K.lookup f_10=some ⟨oc_10,od_10,.func (W.fnOf "first_missed" "first_missed" (qah qa0) (qag qa0) (qab qa0) .none kV_10 dc_10 pm_10 an_10 cd_10 ct_10),sl_10⟩) (c_10:W.codeIn K cd_10 "first_missed" = true) (k_10:W.keepIn K (.ref f_10)=true)
   (a_62:W.nsIn K mainGlobals "hits" = some (some (.ref f_62))) (l_62:K.lookup f_62=some ⟨oc_62,od_62,.func (W.fnOf "hits" "hits" (qah qfS) (qag qfS) (qab qfS) .none kV_62 dc_62 pm_62 an_62 cd_62 ct_62),sl_62⟩) (c_62:W.codeIn K cd_62 "hits" = true) (k_62:W.keepIn K (.ref f_62)=true)
   (a_27:W.nsIn K mainGlobals "always_in" = some (some (.ref f_27))) (l_27:K.lookup f_27=some ⟨oc_27,od_27,.func (W.fnOf "always_in" "always_in" (qah qbB) (qag qbB) (qab qbB) .none kV_27 dc_27 pm_27 an_27 cd_27 ct_27),sl_27⟩) (c_27:W.codeIn K cd_27 "always_in" = true) (k_27:W.keepIn K (.ref f_27)=true)
   (a_20:W.nsIn K mainGlobals "always_out" = some (some (.ref f_20))) (l_20:K.lookup f_20=some ⟨oc_20,od_20,.func (W.fnOf "always_out" "always_out" (qah qbo) (qag qbo) (qab qbo) .none kV_20 dc_20 pm_20 an_20 cd_20 ct_20),sl_20⟩) (c_20:W.codeIn K cd_20 "always_out" = true) (k_20:W.keepIn K (.ref f_20)=true)
   (a_50:W.nsIn K mainGlobals "either" = some (some (.ref f_50))) (l_50:K.lookup f_50=some ⟨oc_50,od_50,.func (W.fnOf "either" "either" (qah qcW) (qag qcW) (qab qcW) .none kV_50 dc_50 pm_50 an_50 cd_50 ct_50),sl_50⟩) (c_50:W.codeIn K cd_50 "either" = true) (k_50:W.keepIn K (.ref f_50)=true)
   (a_63:W.nsIn K mainGlobals "both" = some (some (.ref f_63))) (l_63:K.lookup f_63=some ⟨oc_63,od_63,.func (W.fnOf "both" "both" (qah qfN) (qag qfN) (qab qfN) .none kV_63 dc_63 pm_63 an_63 cd_63 ct_63),sl_63⟩) (c_63:W.codeIn K cd_63 "both" = true) (k_63:W.keepIn K (.ref f_63)=true)
   (a_00:W.nsIn K mainGlobals "first_met_by_alone" = some (some (.ref f_00))) (l_00:K.lookup f_00=some ⟨oc_00,od_00,.func (W.fnOf "first_met_by_alone" "first_met_by_alone" (qah qaz) (qag qaz) (qab qaz) .none kV_00 dc_00 pm_00 an_00 cd_00 ct_00),sl_00⟩) (c_00:W.codeIn K cd_00 "first_met_by_alone" = true) (k_00:W.keepIn K (.ref f_00)=true)
   (a_51:W.nsIn K mainGlobals "looked" = some (some (.ref f_51))) (l_51:K.lookup f_51=some ⟨oc_51,od_51,.func (W.fnOf "looked" "looked" (qah qcR) (qag qcR) (qab qcR) .none kV_51 dc_51 pm_51 an_51 cd_51 ct_51),sl_51⟩) (c_51:W.codeIn K cd_51 "looked" = true) (k_51:W.keepIn K (.ref f_51)=true)
   (a_04:W.nsIn K mainGlobals "first_left_out" = some (some (.ref f_04))) (l_04:K.lookup f_04=some ⟨oc_04,od_04,.func (W.fnOf "first_left_out" "first_left_out" (qah qaJ) (qag qaJ) (qab qaJ) .none kV_04 dc_04 pm_04 an_04 cd_04 ct_04),sl_04⟩) (c_04:W.codeIn K cd_04 "first_left_out" = true) (k_04:W.keepIn K (.ref f_04)=true)
   (a_64:W.nsIn K mainGlobals "held" = some (some (.ref f_64))) (l_64:K.lookup f_64=some ⟨oc_64,od_64,.func (W.fnOf "held" "held" (qah qfH) (qag qfH) (qab qfH) .none kV_64 dc_64 pm_64 an_64 cd_64 ct_64),sl_64⟩) (c_64:W.codeIn K cd_64 "held" = true) (k_64:W.keepIn K (.ref f_64)=true)
   (a_38:W.nsIn K mainGlobals "table_of" = some (some (.ref f_38))) (l_38:K.lookup f_38=some ⟨oc_38,od_38,.func (W.fnOf "table_of" "table_of" (qah qbT) (qag qbT) (qab qbT) .none kV_38 dc_38 pm_38 an_38 cd_38 ct_38),sl_38⟩) (c_38:W.codeIn K cd_38 "table_of" = true) (k_38:W.keepIn K (.ref f_38)=true)
   (a_45:W.nsIn K mainGlobals "noes_by" = some (some (.ref f_45))) (l_45:K.lookup f_45=some ⟨oc_45,od_45,.func (W.fnOf "noes_by" "noes_by" (qah qcj) (qag qcj) (qab qcj) .none kV_45 dc_45 pm_45 an_45 cd_45 ct_45),sl_45⟩) (c_45:W.codeIn K cd_45 "noes_by" = true) (k_45:W.keepIn K (.ref f_45)=true)
   (a_06:W.nsIn K mainGlobals "first_parting" = some (some (.ref f_06))) (l_06:K.lookup f_06=some ⟨oc_06,od_06,.func (W.fnOf "first_parting" "first_parting" (qah qaR) (qag qaR) (qab qaR) .none kV_06 dc_06 pm_06 an_06 cd_06 ct_06),sl_06⟩) (c_06:W.codeIn K cd_06 "first_parting" = true) (k_06:W.keepIn K (.ref f_06)=true)
   (a_15:W.nsIn K mainGlobals "compared_in" = some (some (.ref f_15))) (l_15:K.lookup f_15=some ⟨oc_15,od_15,.func (W.fnOf "compared_in" "compared_in" (qah qbb) (qag qbb) (qab qbb) .none kV_15 dc_15 pm_15 an_15 cd_15 ct_15),sl_15⟩) (c_15:W.codeIn K cd_15 "compared_in" = true) (k_15:W.keepIn K (.ref f_15)=true)
   (a_39:W.nsIn K mainGlobals "compared" = some (some (.ref f_39))) (l_39:K.lookup f_39=some ⟨oc_39,od_39,.func (W.fnOf "compared" "compared" (qah qbS) (qag qbS) (qab qbS) .none kV_39 dc_39 pm_39 an_39 cd_39 ct_39),sl_39⟩) (c_39:W.codeIn K cd_39 "compared" = true) (k_39:W.keepIn K (.ref f_39)=true)
   (a_28:W.nsIn K mainGlobals "turned_by" = some (some (.ref f_28))) (l_28:K.lookup f_28=some ⟨oc_28,od_28,.func (W.fnOf "turned_by" "turned_by" (qah qbx) (qag qbx) (qab qbx) .none kV_28 dc_28 pm_28 an_28 cd_28 ct_28),sl_28⟩) (c_28:W.codeIn K cd_28 "turned_by" = true) (k_28:W.keepIn K (.ref f_28)=true)
   (a_58:W.nsIn K mainGlobals "turns" = some (some (.ref f_58))) (l_58:K.lookup f_58=some ⟨oc_58,od_58,.func (W.fnOf "turns" "turns" (qah qdZ) (qag qdZ) (qab qdZ) .none kV_58 dc_58 pm_58 an_58 cd_58 ct_58),sl_58⟩) (c_58:W.codeIn K cd_58 "turns" = true) (k_58:W.keepIn K (.ref f_58)=true)
   (a_11:W.nsIn K mainGlobals "show_numbers" = some (some (.ref f_11))) (l_11:K.lookup f_11=some ⟨oc_11,od_11,.func (W.fnOf "show_numbers" "show_numbers" (qah qaZ) (qag qaZ) (qab qaZ) .none kV_11 dc_11 pm_11 an_11 cd_11 ct_11),sl_11⟩) (c_11:W.codeIn K cd_11 "show_numbers" = true) (k_11:W.keepIn K (.ref f_11)=true)
   (a_01:W.nsIn K mainGlobals "show_word_and_sets" = some (some (.ref f_01))) (l_01:K.lookup f_01=some ⟨oc_01,od_01,.func (W.fnOf "show_word_and_sets" "show_word_and_sets" (qah qaA) (qag qaA) (qab qaA) .none kV_01 dc_01 pm_01 an_01 cd_01 ct_01),sl_01⟩) (c_01:W.codeIn K cd_01 "show_word_and_sets" = true) (k_01:W.keepIn K (.ref f_01)=true)
   (a_16:W.nsIn K mainGlobals "show_looked" = some (some (.ref f_16))) (l_16:K.lookup f_16=some ⟨oc_16,od_16,.func (W.fnOf "show_looked" "show_looked" (qah qa9) (qag qa9) (qab qa9) .none kV_16 dc_16 pm_16 an_16 cd_16 ct_16),sl_16⟩) (c_16:W.codeIn K cd_16 "show_looked" = true) (k_16:W.keepIn K (.ref f_16)=true)
   (a_52:W.nsIn K mainGlobals "ranked" = some (some (.ref f_52))) (l_52:K.lookup f_52=some ⟨oc_52,od_52,.func (W.fnOf "ranked" "ranked" (qah qcM) (qag qcM) (qab qcM) .none kV_52 dc_52 pm_52 an_52 cd_52 ct_52),sl_52⟩) (c_52:W.codeIn K cd_52 "ranked" = true) (k_52:W.keepIn K (.ref f_52)=true)
   (a_59:W.nsIn K mainGlobals "ranks" = some (some (.ref f_59))) (l_59:K.lookup f_59=some ⟨oc_59,od_59,.func (W.fnOf "ranks" "ranks" (qah qdW) (qag qdW) (qab qdW) .none kV_59 dc_59 pm_59 an_59 cd_59 ct_59),sl_59⟩) (c_59:W.codeIn K cd_59 "ranks" = true) (k_59:W.keepIn K (.ref f_59)=true)
   (a_21:W.nsIn K mainGlobals "show_alike" = some (some (.ref f_21))) (l_21:K.lookup f_21=some ⟨oc_21,od_21,.func (W.fnOf "show_alike" "show_alike" (qah qbm) (qag qbm) (qab qbm) .none kV_21 dc_21 pm_21 an_21 cd_21 ct_21),sl_21⟩) (c_21:W.codeIn K cd_21 "show_alike" = true) (k_21:W.keepIn K (.ref f_21)=true)
   (a_22:W.nsIn K mainGlobals "show_ranks" = some (some (.ref f_22))) (l_22:K.lookup f_22=some ⟨oc_22,od_22,.func (W.fnOf "show_ranks" "show_ranks" (qah qbl) (qag qbl) (qab qbl) .none kV_22 dc_22 pm_22 an_22 cd_22 ct_22),sl_22⟩) (c_22:W.codeIn K cd_22 "show_ranks" = true) (k_22:W.keepIn K (.ref f_22)=true)
   (a_29:W.nsIn K mainGlobals "weight_of" = some (some (.ref f_29))) (l_29:K.lookup f_29=some ⟨oc_29,od_29,.func (W.fnOf "weight_of" "weight_of" (qah qbz) (qag qbz) (qab qbz) .none kV_29 dc_29 pm_29 an_29 cd_29 ct_29),sl_29⟩) (c_29:W.codeIn K cd_29 "weight_of" = true) (k_29:W.keepIn K (.ref f_29)=true)
   (a_53:W.nsIn K mainGlobals "traded" = some (some (.ref f_53))) (l_53:K.lookup f_53=some ⟨oc_53,od_53,.func (W.fnOf "traded" "traded" (qah qcN) (qag qcN) (qab qcN) .none kV_53 dc_53 pm_53 an_53 cd_53 ct_53),sl_53⟩) (c_53:W.codeIn K cd_53 "traded" = true) (k_53:W.keepIn K (.ref f_53)=true)
   (a_17:W.nsIn K mainGlobals "bar_between" = some (some (.ref f_17))) (l_17:K.lookup f_17=some ⟨oc_17,od_17,.func (W.fnOf "bar_between" "bar_between" (qah qa8) (qag qa8) (qab qa8) .none kV_17 dc_17 pm_17 an_17 cd_17 ct_17),sl_17⟩) (c_17:W.codeIn K cd_17 "bar_between" = true) (k_17:W.keepIn K (.ref f_17)=true)
   (a_07:W.nsIn K mainGlobals "falling_lists" = some (some (.ref f_07))) (l_07:K.lookup f_07=some ⟨oc_07,od_07,.func (W.fnOf "falling_lists" "falling_lists" (qah qaP) (qag qaP) (qab qaP) .none kV_07 dc_07 pm_07 an_07 cd_07 ct_07),sl_07⟩) (c_07:W.codeIn K cd_07 "falling_lists" = true) (k_07:W.keepIn K (.ref f_07)=true)
   (a_30:W.nsIn K mainGlobals "given_out" = some (some (.ref f_30))) (l_30:K.lookup f_30=some ⟨oc_30,od_30,.func (W.fnOf "given_out" "given_out" (qah qbG) (qag qbG) (qab qbG) .none kV_30 dc_30 pm_30 an_30 cd_30 ct_30),sl_30⟩) (c_30:W.codeIn K cd_30 "given_out" = true) (k_30:W.keepIn K (.ref f_30)=true)
   (a_46:W.nsIn K mainGlobals "weighed" = some (some (.ref f_46))) (l_46:K.lookup f_46=some ⟨oc_46,od_46,.func (W.fnOf "weighed" "weighed" (qah qca) (qag qca) (qab qca) .none kV_46 dc_46 pm_46 an_46 cd_46 ct_46),sl_46⟩) (c_46:W.codeIn K cd_46 "weighed" = true) (k_46:W.keepIn K (.ref f_46)=true)
   (a_23:W.nsIn K mainGlobals "by_weights" = some (some (.ref f_23))) (l_23:K.lookup f_23=some ⟨oc_23,od_23,.func (W.fnOf "by_weights" "by_weights" (qah qbq) (qag qbq) (qab qbq) .none kV_23 dc_23 pm_23 an_23 cd_23 ct_23),sl_23⟩) (c_23:W.codeIn K cd_23 "by_weights" = true) (k_23:W.keepIn K (.ref f_23)=true)
   (a_12:W.nsIn K mainGlobals "show_weights" = some (some (.ref f_12))) (l_12:K.lookup f_12=some ⟨oc_12,od_12,.func (W.fnOf "show_weights" "show_weights" (qah qaY) (qag qaY) (qab qaY) .none kV_12 dc_12 pm_12 an_12 cd_12 ct_12),sl_12⟩) (c_12:W.codeIn K cd_12 "show_weights" = true) (k_12:W.keepIn K (.ref f_12)=true)
   (a_03:W.nsIn K mainGlobals "compared_unlike" = some (some (.ref f_03))) (l_03:K.lookup f_03=some ⟨oc_03,od_03,.func (W.fnOf "compared_unlike" "compared_unlike" (qah qaH) (qag qaH) (qab qaH) .none kV_03 dc_03 pm_03 an_03 cd_03 ct_03),sl_03⟩) (c_03:W.codeIn K cd_03 "compared_unlike" = true) (k_03:W.keepIn K (.ref f_03)=true)
   (a_40:W.nsIn K mainGlobals "new_name" = some (some (.ref f_40))) (l_40:K.lookup f_40=some ⟨oc_40,od_40,.func (W.fnOf "new_name" "new_name" (qah qbX) (qag qbX) (qab qbX) .none kV_40 dc_40 pm_40 an_40 cd_40 ct_40),sl_40⟩) (c_40:W.codeIn K cd_40 "new_name" = true) (k_40:W.keepIn K (.ref f_40)=true)
   (a_41:W.nsIn K mainGlobals "parts_of" = some (some (.ref f_41))) (l_41:K.lookup f_41=some ⟨oc_41,od_41,.func (W.fnOf "parts_of" "parts_of" (qah qbZ) (qag qbZ) (qab qbZ) .none kV_41 dc_41 pm_41 an_41 cd_41 ct_41),sl_41⟩) (c_41:W.codeIn K cd_41 "parts_of" = true) (k_41:W.keepIn K (.ref f_41)=true)
   (a_08:W.findIn K (.ref cD) "__init__" = some (some (.ref f_08))) (i_08:W.isFn K (.ref f_08)=true) (l_08:K.lookup f_08=some ⟨oc_08,od_08,.func (W.fnOf "__init__" "Desk.__init__" (qah qaO) (qag qaO) (qab qaO) .none kV_08 dc_08 pm_08 an_08 cd_08 ct_08),sl_08⟩) (c_08:W.codeIn K cd_08 "Desk.__init__" = true) (k_08:W.keepIn K (.ref f_08)=true)
   (a_05:W.findIn K (.ref cD) "family_by" = some (some (.ref f_05))) (i_05:W.isFn K (.ref f_05)=true) (l_05:K.lookup f_05=some ⟨oc_05,od_05,.func (W.fnOf "family_by" "Desk.family_by" (qah qaK) (qag qaK) (qab qaK) .none kV_05 dc_05 pm_05 an_05 cd_05 ct_05),sl_05⟩) (c_05:W.codeIn K cd_05 "Desk.family_by" = true) (k_05:W.keepIn K (.ref f_05)=true)
   (a_02:W.findIn K (.ref cD) "look_for_room" = some (some (.ref f_02))) (i_02:W.isFn K (.ref f_02)=true) (l_02:K.lookup f_02=some ⟨oc_02,od_02,.func (W.fnOf "look_for_room" "Desk.look_for_room" (qah qaB) (qag qaB) (qab qaB) .none kV_02 dc_02 pm_02 an_02 cd_02 ct_02),sl_02⟩) (c_02:W.codeIn K cd_02 "Desk.look_for_room" = true) (k_02:W.keepIn K (.ref f_02)=true)
   (a_09:W.findIn K (.ref cD) "thing_of" = some (some (.ref f_09))) (i_09:W.isFn K (.ref f_09)=true) (l_09:K.lookup f_09=some ⟨oc_09,od_09,.func (W.fnOf "thing_of" "Desk.thing_of" (qah qaQ) (qag qaQ) (qab qaQ) .none kV_09 dc_09 pm_09 an_09 cd_09 ct_09),sl_09⟩) (c_09:W.codeIn K cd_09 "Desk.thing_of" = true) (k_09:W.keepIn K (.ref f_09)=true)
   (a_65:W.nsIn K mainGlobals "made" = some (some (.ref f_65))) (l_65:K.lookup f_65=some ⟨oc_65,od_65,.func (W.fnOf "made" "made" (qah qfI) (qag qfI) (qab qfI) .none kV_65 dc_65 pm_65 an_65 cd_65 ct_65),sl_65⟩) (c_65:W.codeIn K cd_65 "made" = true) (k_65:W.keepIn K (.ref f_65)=true)
   (a_42:W.nsIn K mainGlobals "answered" = some (some (.ref f_42))) (l_42:K.lookup f_42=some ⟨oc_42,od_42,.func (W.fnOf "answered" "answered" (qah qbU) (qag qbU) (qab qbU) .none kV_42 dc_42 pm_42 an_42 cd_42 ct_42),sl_42⟩) (c_42:W.codeIn K cd_42 "answered" = true) (k_42:W.keepIn K (.ref f_42)=true)
   (a_43:W.findIn K (.ref cD) "say" = some (some (.ref f_43))) (i_43:W.isFn K (.ref f_43)=true) (l_43:K.lookup f_43=some ⟨oc_43,od_43,.func (W.fnOf "say" "Desk.say" (qah qbQ) (qag qbQ) (qab qbQ) .none kV_43 dc_43 pm_43 an_43 cd_43 ct_43),sl_43⟩) (c_43:W.codeIn K cd_43 "Desk.say" = true) (k_43:W.keepIn K (.ref f_43)=true)
   (a_31:W.nsIn K mainGlobals "_law_name" = some (some (.ref f_31))) (l_31:K.lookup f_31=some ⟨oc_31,od_31,.func (W.fnOf "_law_name" "_law_name" (qah qby) (qag qby) (qab qby) .none kV_31 dc_31 pm_31 an_31 cd_31 ct_31),sl_31⟩) (c_31:W.codeIn K cd_31 "_law_name" = true) (k_31:W.keepIn K (.ref f_31)=true)
   (a_32:W.nsIn K mainGlobals "_law_kind" = some (some (.ref f_32))) (l_32:K.lookup f_32=some ⟨oc_32,od_32,.func (W.fnOf "_law_kind" "_law_kind" (qah qbI) (qag qbI) (qab qbI) .none kV_32 dc_32 pm_32 an_32 cd_32 ct_32),sl_32⟩) (c_32:W.codeIn K cd_32 "_law_kind" = true) (k_32:W.keepIn K (.ref f_32)=true)
   (a_law:W.nsIn K mainGlobals "law" = some (some (.ref f_law))) (l_law:K.lookup f_law=some ⟨oc_law,od_law,.func (W.fnOf "law" "law" (qah qgw) (qag qgw) (qab qgw) .none kV_law dc_law pm_law an_law cd_law ct_law),sl_law⟩) (c_law:W.codeIn K cd_law "law" = true) (k_law:W.keepIn K (.ref f_law)=true)
   (z_isinstance:W.nsIn K mainGlobals "isinstance" = some none)
   (z_int:W.nsIn K mainGlobals "int" = some none)
   (z_bool:W.nsIn K mainGlobals "bool" = some none)
   (z_len:W.nsIn K mainGlobals "len" = some none)
   (z_range:W.nsIn K mainGlobals "range" = some none)
   (z_list:W.nsIn K mainGlobals "list" = some none)
   (z_str:W.nsIn K mainGlobals "str" = some none)
   (z_all:W.nsIn K mainGlobals "all" = some none)
   (z_set:W.nsIn K mainGlobals "set" = some none)
   (z_sorted:W.nsIn K mainGlobals "sorted" = some none)
   (z_zip:W.nsIn K mainGlobals "zip" = some none)
   (z_ValueError:W.nsIn K mainGlobals "ValueError" = some none)
   {t_MOST_SETS:Tok} (v_MOST_SETS:W.nsIn K mainGlobals "MOST_SETS" = some (some (.int 70 t_MOST_SETS)))
   {t_MOST_LETTERS:Tok} (v_MOST_LETTERS:W.nsIn K mainGlobals "MOST_LETTERS" = some (some (.int 8 t_MOST_LETTERS)))
   {t_MOST_NAMES:Tok} (v_MOST_NAMES:W.nsIn K mainGlobals "MOST_NAMES" = some (some (.int 8 t_MOST_NAMES)))
   {t_NO_SETS:Tok} (v_NO_SETS:W.nsIn K mainGlobals "NO_SETS" = some (some (.str "none" t_NO_SETS)))
   {t_NO_NAMES:Tok} (v_NO_NAMES:W.nsIn K mainGlobals "NO_NAMES" = some (some (.str "-" t_NO_NAMES)))
   {t_MOST_KEPT:Tok} (v_MOST_KEPT:W.nsIn K mainGlobals "MOST_KEPT" = some (some (.int 20 t_MOST_KEPT)))
   {tW1 tW2 tW3 tW4 tW5 tW6 tW7 tW8 tW9 tW10 tW11 tW12 tW13 tW14 tW15:Addr} {hW1 hW2 hW3 hW4 hW5 hW6 hW7 hW8 hW9 hW10 hW11 hW12 hW13 hW14 hW15:Int} {kW1 kW2 kW3 kW4 kW5 kW6 kW7 kW8 kW9 kW10 kW11 kW12 kW13 kW14 kW15:Tok} {ep:Nat} (gD:W.nsIn K mainGlobals "Desk" = some (some (.ref cD))) (gW:W.nsIn K mainGlobals "WANTED" = some (some (.ref aW))) (lW:K.lookup aW=some ⟨.type "dict",none,.dict #[⟨hW1,.str "let" kW1,.ref tW1⟩,⟨hW2,.str "hits" kW2,.ref tW2⟩,⟨hW3,.str "rests" kW3,.ref tW3⟩,⟨hW4,.str "either" kW4,.ref tW4⟩,⟨hW5,.str "both" kW5,.ref tW5⟩,⟨hW6,.str "in" kW6,.ref tW6⟩,⟨hW7,.str "out" kW7,.ref tW7⟩,⟨hW8,.str "show" kW8,.ref tW8⟩,⟨hW9,.str "says" kW9,.ref tW9⟩,⟨hW10,.str "look" kW10,.ref tW10⟩,⟨hW11,.str "held" kW11,.ref tW11⟩,⟨hW12,.str "compare" kW12,.ref tW12⟩,⟨hW13,.str "turns" kW13,.ref tW13⟩,⟨hW14,.str "ranks" kW14,.ref tW14⟩,⟨hW15,.str "weights" kW15,.ref tW15⟩] ep,#[]⟩) (nW:(aW==sysModules)=false)
   {oW1:Option Addr} {nn1:Nat} {sW1:Array (Option Value)} {u1_0 u1_1:Tok} (eW1:hW1=hashStr w "let") (lW1:K.lookup tW1=some ⟨.type "tuple",oW1,.seq #[.str "new" u1_0,.str "text" u1_1] nn1,sW1⟩)
   {oW2:Option Addr} {nn2:Nat} {sW2:Array (Option Value)} {u2_0 u2_1:Tok} (eW2:hW2=hashStr w "hits") (lW2:K.lookup tW2=some ⟨.type "tuple",oW2,.seq #[.str "new" u2_0,.str "family" u2_1] nn2,sW2⟩)
   {oW3:Option Addr} {nn3:Nat} {sW3:Array (Option Value)} {u3_0 u3_1:Tok} (eW3:hW3=hashStr w "rests") (lW3:K.lookup tW3=some ⟨.type "tuple",oW3,.seq #[.str "new" u3_0,.str "family" u3_1] nn3,sW3⟩)
   {oW4:Option Addr} {nn4:Nat} {sW4:Array (Option Value)} {u4_0 u4_1 u4_2:Tok} (eW4:hW4=hashStr w "either") (lW4:K.lookup tW4=some ⟨.type "tuple",oW4,.seq #[.str "new" u4_0,.str "family" u4_1,.str "family" u4_2] nn4,sW4⟩)
   {oW5:Option Addr} {nn5:Nat} {sW5:Array (Option Value)} {u5_0 u5_1 u5_2:Tok} (eW5:hW5=hashStr w "both") (lW5:K.lookup tW5=some ⟨.type "tuple",oW5,.seq #[.str "new" u5_0,.str "family" u5_1,.str "family" u5_2] nn5,sW5⟩)
   {oW6:Option Addr} {nn6:Nat} {sW6:Array (Option Value)} {u6_0 u6_1 u6_2:Tok} (eW6:hW6=hashStr w "in") (lW6:K.lookup tW6=some ⟨.type "tuple",oW6,.seq #[.str "new" u6_0,.str "family" u6_1,.str "name" u6_2] nn6,sW6⟩)
   {oW7:Option Addr} {nn7:Nat} {sW7:Array (Option Value)} {u7_0 u7_1 u7_2:Tok} (eW7:hW7=hashStr w "out") (lW7:K.lookup tW7=some ⟨.type "tuple",oW7,.seq #[.str "new" u7_0,.str "family" u7_1,.str "name" u7_2] nn7,sW7⟩)
   {oW8:Option Addr} {nn8:Nat} {sW8:Array (Option Value)} {u8_0:Tok} (eW8:hW8=hashStr w "show") (lW8:K.lookup tW8=some ⟨.type "tuple",oW8,.seq #[.str "family" u8_0] nn8,sW8⟩)
   {oW9:Option Addr} {nn9:Nat} {sW9:Array (Option Value)} {u9_0 u9_1:Tok} (eW9:hW9=hashStr w "says") (lW9:K.lookup tW9=some ⟨.type "tuple",oW9,.seq #[.str "family" u9_0,.str "set" u9_1] nn9,sW9⟩)
   {oW10:Option Addr} {nn10:Nat} {sW10:Array (Option Value)} {u10_0 u10_1:Tok} (eW10:hW10=hashStr w "look") (lW10:K.lookup tW10=some ⟨.type "tuple",oW10,.seq #[.str "family" u10_0,.str "set" u10_1] nn10,sW10⟩)
   {oW11:Option Addr} {nn11:Nat} {sW11:Array (Option Value)} {u11_0 u11_1:Tok} (eW11:hW11=hashStr w "held") (lW11:K.lookup tW11=some ⟨.type "tuple",oW11,.seq #[.str "family" u11_0,.str "family" u11_1] nn11,sW11⟩)
   {oW12:Option Addr} {nn12:Nat} {sW12:Array (Option Value)} {u12_0 u12_1 u12_2:Tok} (eW12:hW12=hashStr w "compare") (lW12:K.lookup tW12=some ⟨.type "tuple",oW12,.seq #[.str "family" u12_0,.str "name" u12_1,.str "name" u12_2] nn12,sW12⟩)
   {oW13:Option Addr} {nn13:Nat} {sW13:Array (Option Value)} {u13_0:Tok} (eW13:hW13=hashStr w "turns") (lW13:K.lookup tW13=some ⟨.type "tuple",oW13,.seq #[.str "family" u13_0] nn13,sW13⟩)
   {oW14:Option Addr} {nn14:Nat} {sW14:Array (Option Value)} {u14_0:Tok} (eW14:hW14=hashStr w "ranks") (lW14:K.lookup tW14=some ⟨.type "tuple",oW14,.seq #[.str "family" u14_0] nn14,sW14⟩)
   {oW15:Option Addr} {nn15:Nat} {sW15:Array (Option Value)} {u15_0:Tok} (eW15:hW15=hashStr w "weights") (lW15:K.lookup tW15=some ⟨.type "tuple",oW15,.seq #[.str "family" u15_0] nn15,sW15⟩)
   (pgD:W.plainGet K cD Str.empty=true) (hdD:W.hasDictIn K cD=true) (poD:W.plainOver K cD=true) (saD:W.findIn K (.ref cD) "__setattr__" = some (some (.builtin "object.__setattr__"))) (nwD:W.findIn K (.ref cD) "words" = some none) (nkD:W.findIn K (.ref cD) "kept" = some none) (mkD:W.makesIn K cD=true) (kpD:W.keepIn K (.ref cD)=true)
   (gX:W.nsIn K mainGlobals "NoText" = some (some (.ref cX))) (gN:W.nsIn K mainGlobals "NoFamily" = some (some (.ref cN))) (gF:W.nsIn K mainGlobals "Full" = some (some (.ref cF))) (gH:W.nsIn K mainGlobals "HitError" = some (some (.ref cH))) (gO:W.nsIn K mainGlobals "NoDeed" = some (some (.ref cO))) (gM:W.nsIn K mainGlobals "TooMany" = some (some (.ref cM))) (xX:W.excIn K cX [.type "ValueError",.type "Exception",.type "BaseException",.type "object"] "ValueError.__new__" = true) (xN:W.excIn K cN [.type "ValueError",.type "Exception",.type "BaseException",.type "object"] "ValueError.__new__" = true) (xF:W.excIn K cF [.type "ValueError",.type "Exception",.type "BaseException",.type "object"] "ValueError.__new__" = true) (xH:W.excIn K cH [.type "ValueError",.type "Exception",.type "BaseException",.type "object"] "ValueError.__new__" = true) (eH:W.subIn K (.ref cH) (.type "BaseException")=some true)
   (hX:W.subIn K (.ref cX) (.ref cH)=some true) (pX:W.findIn K (.ref cX) "__getattribute__" = some (some (.builtin "BaseException.__getattribute__"))) (qX:W.findIn K (.ref cX) "__getattr__" = some none) (rX:W.findIn K (.ref cX) "__class__" = some (some (.builtin "object.__class__"))) (bX:W.subIn K (.ref cX) (.type "BaseException")=some true) (oX:W.subIn K (.ref cX) (.type "object")=some true) (vX:W.subIn K (.ref cX) (.type "ValueError")=some true) (sXN:W.subIn K (.ref cX) (.ref cN)=some false) (dXN:(cX==cN)=false) (sXF:W.subIn K (.ref cX) (.ref cF)=some false) (dXF:(cX==cF)=false) (sXO:W.subIn K (.ref cX) (.ref cO)=some false) (dXO:(cX==cO)=false) (sXM:W.subIn K (.ref cX) (.ref cM)=some false) (dXM:(cX==cM)=false)
   (hN:W.subIn K (.ref cN) (.ref cH)=some true) (pN:W.findIn K (.ref cN) "__getattribute__" = some (some (.builtin "BaseException.__getattribute__"))) (qN:W.findIn K (.ref cN) "__getattr__" = some none) (rN:W.findIn K (.ref cN) "__class__" = some (some (.builtin "object.__class__"))) (bN:W.subIn K (.ref cN) (.type "BaseException")=some true) (oN:W.subIn K (.ref cN) (.type "object")=some true) (vN:W.subIn K (.ref cN) (.type "ValueError")=some true) (sNX:W.subIn K (.ref cN) (.ref cX)=some false) (dNX:(cN==cX)=false) (sNF:W.subIn K (.ref cN) (.ref cF)=some false) (dNF:(cN==cF)=false) (sNO:W.subIn K (.ref cN) (.ref cO)=some false) (dNO:(cN==cO)=false) (sNM:W.subIn K (.ref cN) (.ref cM)=some false) (dNM:(cN==cM)=false)
   (hF:W.subIn K (.ref cF) (.ref cH)=some true) (pF:W.findIn K (.ref cF) "__getattribute__" = some (some (.builtin "BaseException.__getattribute__"))) (qF:W.findIn K (.ref cF) "__getattr__" = some none) (rF:W.findIn K (.ref cF) "__class__" = some (some (.builtin "object.__class__"))) (bF:W.subIn K (.ref cF) (.type "BaseException")=some true) (oF:W.subIn K (.ref cF) (.type "object")=some true) (vF:W.subIn K (.ref cF) (.type "ValueError")=some true) (sFX:W.subIn K (.ref cF) (.ref cX)=some false) (dFX:(cF==cX)=false) (sFN:W.subIn K (.ref cF) (.ref cN)=some false) (dFN:(cF==cN)=false) (sFO:W.subIn K (.ref cF) (.ref cO)=some false) (dFO:(cF==cO)=false) (sFM:W.subIn K (.ref cF) (.ref cM)=some false) (dFM:(cF==cM)=false)
   {cdX:ClassData} (tX:W.typeIn K (.ref cX)=some (.type "type")) (kX:W.clsIn K cX=some cdX)
   {cdN:ClassData} (tN:W.typeIn K (.ref cN)=some (.type "type")) (kN:W.clsIn K cN=some cdN)
   {cdF:ClassData} (tF:W.typeIn K (.ref cF)=some (.type "type")) (kF:W.clsIn K cF=some cdF)
   {cdO:ClassData} (tO:W.typeIn K (.ref cO)=some (.type "type")) (kO:W.clsIn K cO=some cdO)
   {cdM:ClassData} (tM:W.typeIn K (.ref cM)=some (.type "type")) (kM:W.clsIn K cM=some cdM)
   {oS:Obj} (uS:K.lookup cStatics=some oS) (uE:qpR oS=true) (u2:W.nsIn K cStatics sharingNotToldKey=some none) :
   ∃fd:FuncData,(∀(s:Shared) (v:Value),BindsTo s fd ⟨[v],[]⟩ [("_law_script",v)])/\∀base:Heap,K.In base->base.Ns mainGlobals mg->qaN l.prog w K mg base CX0 8 fa fd ["_law_script"] ((qlI K)):=by
 have e:=hfa.symm.trans (W.mg_of X G a_law)
 cases e
 have T:Txt mg:=⟨W.mg_none_of X G z_isinstance,W.mg_none_of X G z_int,W.mg_none_of X G z_bool,W.mg_none_of X G z_len,W.mg_none_of X G z_range,W.mg_none_of X G z_list,W.mg_none_of X G z_str,W.mg_none_of X G z_all,W.mg_none_of X G z_set,W.mg_none_of X G z_sorted,W.mg_none_of X G z_zip,W.mg_none_of X G z_ValueError,⟨_,W.mg_of X G v_MOST_SETS⟩,⟨_,W.mg_of X G v_MOST_LETTERS⟩,⟨_,W.mg_of X G v_MOST_NAMES⟩,⟨_,W.mg_of X G v_NO_SETS⟩,⟨_,W.mg_of X G v_NO_NAMES⟩,⟨_,W.mg_of X G v_MOST_KEPT⟩⟩
 have EW:qrG K w qif [⟨hW1,.str "let" kW1,.ref tW1⟩,⟨hW2,.str "hits" kW2,.ref tW2⟩,⟨hW3,.str "rests" kW3,.ref tW3⟩,⟨hW4,.str "either" kW4,.ref tW4⟩,⟨hW5,.str "both" kW5,.ref tW5⟩,⟨hW6,.str "in" kW6,.ref tW6⟩,⟨hW7,.str "out" kW7,.ref tW7⟩,⟨hW8,.str "show" kW8,.ref tW8⟩,⟨hW9,.str "says" kW9,.ref tW9⟩,⟨hW10,.str "look" kW10,.ref tW10⟩,⟨hW11,.str "held" kW11,.ref tW11⟩,⟨hW12,.str "compare" kW12,.ref tW12⟩,⟨hW13,.str "turns" kW13,.ref tW13⟩,⟨hW14,.str "ranks" kW14,.ref tW14⟩,⟨hW15,.str "weights" kW15,.ref tW15⟩]:=⟨⟨_,_,by rw [eW1],qb3 lW1 (by simp) (.cons ⟨_,rfl⟩ (.cons ⟨_,rfl⟩ .nil))⟩,⟨_,_,by rw [eW2],qb3 lW2 (by simp) (.cons ⟨_,rfl⟩ (.cons ⟨_,rfl⟩ .nil))⟩,⟨_,_,by rw [eW3],qb3 lW3 (by simp) (.cons ⟨_,rfl⟩ (.cons ⟨_,rfl⟩ .nil))⟩,⟨_,_,by rw [eW4],qb3 lW4 (by simp) (.cons ⟨_,rfl⟩ (.cons ⟨_,rfl⟩ (.cons ⟨_,rfl⟩ .nil)))⟩,⟨_,_,by rw [eW5],qb3 lW5 (by simp) (.cons ⟨_,rfl⟩ (.cons ⟨_,rfl⟩ (.cons ⟨_,rfl⟩ .nil)))⟩,⟨_,_,by rw [eW6],qb3 lW6 (by simp) (.cons ⟨_,rfl⟩ (.cons ⟨_,rfl⟩ (.cons ⟨_,rfl⟩ .nil)))⟩,⟨_,_,by rw [eW7],qb3 lW7 (by simp) (.cons ⟨_,rfl⟩ (.cons ⟨_,rfl⟩ (.cons ⟨_,rfl⟩ .nil)))⟩,⟨_,_,by rw [eW8],qb3 lW8 (by simp) (.cons ⟨_,rfl⟩ .nil)⟩,⟨_,_,by rw [eW9],qb3 lW9 (by simp) (.cons ⟨_,rfl⟩ (.cons ⟨_,rfl⟩ .nil))⟩,⟨_,_,by rw [eW10],qb3 lW10 (by simp) (.cons ⟨_,rfl⟩ (.cons ⟨_,rfl⟩ .nil))⟩,⟨_,_,by rw [eW11],qb3 lW11 (by simp) (.cons ⟨_,rfl⟩ (.cons ⟨_,rfl⟩ .nil))⟩,⟨_,_,by rw [eW12],qb3 lW12 (by simp) (.cons ⟨_,rfl⟩ (.cons ⟨_,rfl⟩ (.cons ⟨_,rfl⟩ .nil)))⟩,⟨_,_,by rw [eW13],qb3 lW13 (by simp) (.cons ⟨_,rfl⟩ .nil)⟩,⟨_,_,by rw [eW14],qb3 lW14 (by simp) (.cons ⟨_,rfl⟩ .nil)⟩,⟨_,_,by rw [eW15],qb3 lW15 (by simp) (.cons ⟨_,rfl⟩ .nil)⟩,trivial⟩
 have Z:Xt l.prog w K mg cD aW cX cN cF cH cO cM:=⟨W.mg_of X G gD,⟨pgD,hdD,poD,saD⟩,nwD,nkD,W.mg_of X G gW,qrk lW nW EW,W.mg_of X G gX,W.mg_of X G gN,W.mg_of X G gF,W.mg_of X G gH,W.mg_of X G gO,W.mg_of X G gM,xX,xN,xF,xH,eH,(qd9 (hX) (hN) (hF)),(qd9 (⟨⟨_,_,xX⟩,pX,qX,rX,bX,oX⟩) (⟨⟨_,_,xN⟩,pN,qN,rN,bN,oN⟩) (⟨⟨_,_,xF⟩,pF,qF,rF,bF,oF⟩)),(qd9 (qgt (by decide +kernel) vX) (qgt (by decide +kernel) vN) (qgt (by decide +kernel) vF)),(qd9 (qbN kO tO dXO sXO) (qbN kO tO dNO sNO) (qbN kO tO dFO sFO)),(qd9 (qbN kM tM dXM sXM) (qbN kM tM dNM sNM) (qbN kM tM dFM sFM)),(qd9 (by rw [decide_eq_true rfl];exact qgB) (by rw [decide_eq_false (by simpa using dNX)];exact qbN kX tX dNX sNX) (by rw [decide_eq_false (by simpa using dFX)];exact qbN kX tX dFX sFX)),(qd9 (by rw [decide_eq_false (by simpa using dXN)];exact qbN kN tN dXN sXN) (by rw [decide_eq_true rfl];exact qgB) (by rw [decide_eq_false (by simpa using dFN)];exact qbN kN tN dFN sFN)),(qd9 (by rw [decide_eq_false (by simpa using dXF)];exact qbN kF tF dXF sXF) (by rw [decide_eq_false (by simpa using dNF)];exact qbN kF tF dNF sNF) (by rw [decide_eq_true rfl];exact qgB)),(by simpa using dXN),(by simpa using dXF),(by simpa using dNF),qsv uS uE,u2⟩
 have F_33:=qao (st:=qbR) l_33 c_33 k_33
 have b_33:=F_33.binds (ps:=["thing"]) fun _ _ _ _ _ _ us hl=>match us,hl with | [_],_=>rfl
 have F_24:=qao (st:=qbE) l_24 c_24 k_24
 have b_24:=F_24.binds (ps:=["_law_script", "_law_k"]) fun _ _ _ _ _ _ us hl=>match us,hl with | [_,_],_=>rfl
 have F_34:=qao (st:=qbV) l_34 c_34 k_34
 have b_34:=F_34.binds (ps:=["_law_cell_here", "_law_k"]) fun _ _ _ _ _ _ us hl=>match us,hl with | [_,_],_=>rfl
 have F_18:=qao (st:=qbk) l_18 c_18 k_18
 have b_18:=F_18.binds (ps:=["_law_cell_here", "_law_count"]) fun _ _ _ _ _ _ us hl=>match us,hl with | [_,_],_=>rfl
 have F_47:=qao (st:=qcT) l_47 c_47 k_47
 have b_47:=F_47.binds (ps:=["many", "thing"]) fun _ _ _ _ _ _ us hl=>match us,hl with | [_,_],_=>rfl
 have F_25:=qao (st:=qbD) l_25 c_25 k_25
 have b_25:=F_25.binds (ps:=["many", "thing"]) fun _ _ _ _ _ _ us hl=>match us,hl with | [_,_],_=>rfl
 have F_35:=qao (st:=qbY) l_35 c_35 k_35
 have b_35:=F_35.binds (ps:=["one"]) fun _ _ _ _ _ _ us hl=>match us,hl with | [_],_=>rfl
 have F_48:=qao (st:=qcS) l_48 c_48 k_48
 have b_48:=F_48.binds (ps:=["names"]) fun _ _ _ _ _ _ us hl=>match us,hl with | [_],_=>rfl
 have F_49:=qao (st:=qcX) l_49 c_49 k_49
 have b_49:=F_49.binds (ps:=["text", "sign"]) fun _ _ _ _ _ _ us hl=>match us,hl with | [_,_],_=>rfl
 have F_44:=qao (st:=qce) l_44 c_44 k_44
 have b_44:=F_44.binds (ps:=["text"]) fun _ _ _ _ _ _ us hl=>match us,hl with | [_],_=>rfl
 have F_19:=qao (st:=qbp) l_19 c_19 k_19
 have b_19:=F_19.binds (ps:=["text"]) fun _ _ _ _ _ _ us hl=>match us,hl with | [_],_=>rfl
 have F_26:=qao (st:=qbH) l_26 c_26 k_26
 have b_26:=F_26.binds (ps:=["words", "word"]) fun _ _ _ _ _ _ us hl=>match us,hl with | [_,_],_=>rfl
 have F_36:=qao (st:=qbP) l_36 c_36 k_36
 have b_36:=F_36.binds (ps:=["words", "one"]) fun _ _ _ _ _ _ us hl=>match us,hl with | [_,_],_=>rfl
 have F_13:=qao (st:=qbc) l_13 c_13 k_13
 have b_13:=F_13.binds (ps:=["words", "family"]) fun _ _ _ _ _ _ us hl=>match us,hl with | [_,_],_=>rfl
 have F_37:=qao (st:=qbW) l_37 c_37 k_37
 have b_37:=F_37.binds (ps:=["words", "text"]) fun _ _ _ _ _ _ us hl=>match us,hl with | [_,_],_=>rfl
 have F_14:=qao (st:=qbd) l_14 c_14 k_14
 have b_14:=F_14.binds (ps:=["words", "text"]) fun _ _ _ _ _ _ us hl=>match us,hl with | [_,_],_=>rfl
 have F_54:=qao (st:=qdX) l_54 c_54 k_54
 have b_54:=F_54.binds (ps:=["one", "other"]) fun _ _ _ _ _ _ us hl=>match us,hl with | [_,_],_=>rfl
 have F_55:=qao (st:=qdO) l_55 c_55 k_55
 have b_55:=F_55.binds (ps:=["one", "other"]) fun _ _ _ _ _ _ us hl=>match us,hl with | [_,_],_=>rfl
 have F_60:=qao (st:=qfZ) l_60 c_60 k_60
 have b_60:=F_60.binds (ps:=["many", "one"]) fun _ _ _ _ _ _ us hl=>match us,hl with | [_,_],_=>rfl
 have F_61:=qao (st:=qfP) l_61 c_61 k_61
 have b_61:=F_61.binds (ps:=["family", "one"]) fun _ _ _ _ _ _ us hl=>match us,hl with | [_,_],_=>rfl
 have F_56:=qao (st:=qd0) l_56 c_56 k_56
 have b_56:=F_56.binds (ps:=["some"]) fun _ _ _ _ _ _ us hl=>match us,hl with | [_],_=>rfl
 have F_57:=qao (st:=qdL) l_57 c_57 k_57
 have b_57:=F_57.binds (ps:=["many", "family"]) fun _ _ _ _ _ _ us hl=>match us,hl with | [_,_],_=>rfl
 have F_10:=qao (st:=qa0) l_10 c_10 k_10
 have b_10:=F_10.binds (ps:=["family", "one"]) fun _ _ _ _ _ _ us hl=>match us,hl with | [_,_],_=>rfl
 have F_62:=qao (st:=qfS) l_62 c_62 k_62
 have b_62:=F_62.binds (ps:=["many", "family"]) fun _ _ _ _ _ _ us hl=>match us,hl with | [_,_],_=>rfl
 have F_27:=qao (st:=qbB) l_27 c_27 k_27
 have b_27:=F_27.binds (ps:=["family", "k"]) fun _ _ _ _ _ _ us hl=>match us,hl with | [_,_],_=>rfl
 have F_20:=qao (st:=qbo) l_20 c_20 k_20
 have b_20:=F_20.binds (ps:=["family", "k"]) fun _ _ _ _ _ _ us hl=>match us,hl with | [_,_],_=>rfl
 have F_50:=qao (st:=qcW) l_50 c_50 k_50
 have b_50:=F_50.binds (ps:=["one", "other"]) fun _ _ _ _ _ _ us hl=>match us,hl with | [_,_],_=>rfl
 have F_63:=qao (st:=qfN) l_63 c_63 k_63
 have b_63:=F_63.binds (ps:=["one", "other"]) fun _ _ _ _ _ _ us hl=>match us,hl with | [_,_],_=>rfl
 have F_00:=qao (st:=qaz) l_00 c_00 k_00
 have b_00:=F_00.binds (ps:=["family", "one", "k"]) fun _ _ _ _ _ _ us hl=>match us,hl with | [_,_,_],_=>rfl
 have F_51:=qao (st:=qcR) l_51 c_51 k_51
 have b_51:=F_51.binds (ps:=["family", "one"]) fun _ _ _ _ _ _ us hl=>match us,hl with | [_,_],_=>rfl
 have F_04:=qao (st:=qaJ) l_04 c_04 k_04
 have b_04:=F_04.binds (ps:=["many", "one", "other"]) fun _ _ _ _ _ _ us hl=>match us,hl with | [_,_,_],_=>rfl
 have F_64:=qao (st:=qfH) l_64 c_64 k_64
 have b_64:=F_64.binds (ps:=["many", "one", "other"]) fun _ _ _ _ _ _ us hl=>match us,hl with | [_,_,_],_=>rfl
 have F_38:=qao (st:=qbT) l_38 c_38 k_38
 have b_38:=F_38.binds (ps:=["many", "family"]) fun _ _ _ _ _ _ us hl=>match us,hl with | [_,_],_=>rfl
 have F_45:=qao (st:=qcj) l_45 c_45 k_45
 have b_45:=F_45.binds (ps:=["many", "family"]) fun _ _ _ _ _ _ us hl=>match us,hl with | [_,_],_=>rfl
 have F_06:=qao (st:=qaR) l_06 c_06 k_06
 have b_06:=F_06.binds (ps:=["many", "table", "x", "y"]) fun _ _ _ _ _ _ us hl=>match us,hl with | [_,_,_,_],_=>rfl
 have F_15:=qao (st:=qbb) l_15 c_15 k_15
 have b_15:=F_15.binds (ps:=["many", "table", "x", "y"]) fun _ _ _ _ _ _ us hl=>match us,hl with | [_,_,_,_],_=>rfl
 have F_39:=qao (st:=qbS) l_39 c_39 k_39
 have b_39:=F_39.binds (ps:=["many", "family", "x", "y"]) fun _ _ _ _ _ _ us hl=>match us,hl with | [_,_,_,_],_=>rfl
 have F_28:=qao (st:=qbx) l_28 c_28 k_28
 have b_28:=F_28.binds (ps:=["many", "table", "k"]) fun _ _ _ _ _ _ us hl=>match us,hl with | [_,_,_],_=>rfl
 have F_58:=qao (st:=qdZ) l_58 c_58 k_58
 have b_58:=F_58.binds (ps:=["many", "family"]) fun _ _ _ _ _ _ us hl=>match us,hl with | [_,_],_=>rfl
 have F_11:=qao (st:=qaZ) l_11 c_11 k_11
 have b_11:=F_11.binds (ps:=["numbers"]) fun _ _ _ _ _ _ us hl=>match us,hl with | [_],_=>rfl
 have F_01:=qao (st:=qaA) l_01 c_01 k_01
 have b_01:=F_01.binds (ps:=["words", "told"]) fun _ _ _ _ _ _ us hl=>match us,hl with | [_,_],_=>rfl
 have F_16:=qao (st:=qa9) l_16 c_16 k_16
 have b_16:=F_16.binds (ps:=["words", "told"]) fun _ _ _ _ _ _ us hl=>match us,hl with | [_,_],_=>rfl
 have F_52:=qao (st:=qcM) l_52 c_52 k_52
 have b_52:=F_52.binds (ps:=["counts"]) fun _ _ _ _ _ _ us hl=>match us,hl with | [_],_=>rfl
 have F_59:=qao (st:=qdW) l_59 c_59 k_59
 have b_59:=F_59.binds (ps:=["many", "family"]) fun _ _ _ _ _ _ us hl=>match us,hl with | [_,_],_=>rfl
 have F_21:=qao (st:=qbm) l_21 c_21 k_21
 have b_21:=F_21.binds (ps:=["words", "names"]) fun _ _ _ _ _ _ us hl=>match us,hl with | [_,_],_=>rfl
 have F_22:=qao (st:=qbl) l_22 c_22 k_22
 have b_22:=F_22.binds (ps:=["words", "told"]) fun _ _ _ _ _ _ us hl=>match us,hl with | [_,_],_=>rfl
 have F_29:=qao (st:=qbz) l_29 c_29 k_29
 have b_29:=F_29.binds (ps:=["weights", "one"]) fun _ _ _ _ _ _ us hl=>match us,hl with | [_,_],_=>rfl
 have F_53:=qao (st:=qcN) l_53 c_53 k_53
 have b_53:=F_53.binds (ps:=["x", "y", "s", "t"]) fun _ _ _ _ _ _ us hl=>match us,hl with | [_,_,_,_],_=>rfl
 have F_17:=qao (st:=qa8) l_17 c_17 k_17
 have b_17:=F_17.binds (ps:=["weights", "yes", "no"]) fun _ _ _ _ _ _ us hl=>match us,hl with | [_,_,_],_=>rfl
 have F_07:=qao (st:=qaP) l_07 c_07 k_07
 have b_07:=F_07.binds (ps:=["length", "most"]) fun _ _ _ _ _ _ us hl=>match us,hl with | [_,_],_=>rfl
 have F_30:=qao (st:=qbG) l_30 c_30 k_30
 have b_30:=F_30.binds (ps:=["many", "lists", "falling"]) fun _ _ _ _ _ _ us hl=>match us,hl with | [_,_,_],_=>rfl
 have F_46:=qao (st:=qca) l_46 c_46 k_46
 have b_46:=F_46.binds (ps:=["many", "family", "lists"]) fun _ _ _ _ _ _ us hl=>match us,hl with | [_,_,_],_=>rfl
 have F_23:=qao (st:=qbq) l_23 c_23 k_23
 have b_23:=F_23.binds (ps:=["many", "family"]) fun _ _ _ _ _ _ us hl=>match us,hl with | [_,_],_=>rfl
 have F_12:=qao (st:=qaY) l_12 c_12 k_12
 have b_12:=F_12.binds (ps:=["words", "told"]) fun _ _ _ _ _ _ us hl=>match us,hl with | [_,_],_=>rfl
 have F_03:=qao (st:=qaH) l_03 c_03 k_03
 have b_03:=F_03.binds (ps:=["many", "family", "x", "y"]) fun _ _ _ _ _ _ us hl=>match us,hl with | [_,_,_,_],_=>rfl
 have F_40:=qao (st:=qbX) l_40 c_40 k_40
 have b_40:=F_40.binds (ps:=["word"]) fun _ _ _ _ _ _ us hl=>match us,hl with | [_],_=>rfl
 have F_41:=qao (st:=qbZ) l_41 c_41 k_41
 have b_41:=F_41.binds (ps:=["row"]) fun _ _ _ _ _ _ us hl=>match us,hl with | [_],_=>rfl
 have F_08:=qao (st:=qaO) l_08 c_08 k_08
 have b_08:=F_08.binds (ps:=["self", "text"]) fun _ _ _ _ _ _ us hl=>match us,hl with | [_,_],_=>rfl
 have F_05:=qao (st:=qaK) l_05 c_05 k_05
 have b_05:=F_05.binds (ps:=["self", "word"]) fun _ _ _ _ _ _ us hl=>match us,hl with | [_,_],_=>rfl
 have F_02:=qao (st:=qaB) l_02 c_02 k_02
 have b_02:=F_02.binds (ps:=["self", "name"]) fun _ _ _ _ _ _ us hl=>match us,hl with | [_,_],_=>rfl
 have F_09:=qao (st:=qaQ) l_09 c_09 k_09
 have b_09:=F_09.binds (ps:=["self", "kind", "word"]) fun _ _ _ _ _ _ us hl=>match us,hl with | [_,_,_],_=>rfl
 have F_65:=qao (st:=qfI) l_65 c_65 k_65
 have b_65:=F_65.binds (ps:=["many", "deed", "things"]) fun _ _ _ _ _ _ us hl=>match us,hl with | [_,_,_],_=>rfl
 have F_42:=qao (st:=qbU) l_42 c_42 k_42
 have b_42:=F_42.binds (ps:=["words", "deed", "things"]) fun _ _ _ _ _ _ us hl=>match us,hl with | [_,_,_],_=>rfl
 have F_43:=qao (st:=qbQ) l_43 c_43 k_43
 have b_43:=F_43.binds (ps:=["self", "row"]) fun _ _ _ _ _ _ us hl=>match us,hl with | [_,_],_=>rfl
 have F_31:=qao (st:=qby) l_31 c_31 k_31
 have b_31:=F_31.binds (ps:=["_law_k"]) fun _ _ _ _ _ _ us hl=>match us,hl with | [_],_=>rfl
 have F_32:=qao (st:=qbI) l_32 c_32 k_32
 have b_32:=F_32.binds (ps:=["_law_desk", "_law_row"]) fun _ _ _ _ _ _ us hl=>match us,hl with | [_,_],_=>rfl
 have F_law:=qao (st:=qgw) l_law c_law k_law
 refine ⟨W.fnOf "law" "law" (qah qgw) (qag qgw) (qab qgw) .none kV_law dc_law pm_law an_law cd_law ct_law,fun s v => .of_eq rfl,fun base _ _=>?_⟩
 have C_33:Cal l.prog w K mg base "is_whole" 1 ["thing"] qhQ _ _:=⟨qiq F_33 T ,W.mg_of X G a_33,k_33,b_33⟩
 have C_24:Cal l.prog w K mg base "_law_cell" 1 ["_law_script", "_law_k"] (qlK K) _ _:=⟨qhn F_24 T ,W.mg_of X G a_24,k_24,b_24⟩
 have C_34:Cal l.prog w K mg base "_law_mix" 1 ["_law_cell_here", "_law_k"] qmV _ _:=⟨qio F_34 T ,W.mg_of X G a_34,k_34,b_34⟩
 have C_18:Cal l.prog w K mg base "_law_words" 2 ["_law_cell_here", "_law_count"] (qfn K) _ _:=⟨qgA F_18 T C_34,W.mg_of X G a_18,k_18,b_18⟩
 have C_47:Cal l.prog w K mg base "is_set" 2 ["many", "thing"] qoc _ _:=⟨qkN F_47 T C_33,W.mg_of X G a_47,k_47,b_47⟩
 have C_25:Cal l.prog w K mg base "is_family" 3 ["many", "thing"] (qit K) _ _:=⟨qg4 F_25 T C_47,W.mg_of X G a_25,k_25,b_25⟩
 have C_35:Cal l.prog w K mg base "names_in" 1 ["one"] qhr _ _:=⟨qh0 F_35 T ,W.mg_of X G a_35,k_35,b_35⟩
 have C_48:Cal l.prog w K mg base "set_of" 1 ["names"] (qhS K) _ _:=⟨qlA F_48 T ,W.mg_of X G a_48,k_48,b_48⟩
 have C_49:Cal l.prog w K mg base "parted" 1 ["text", "sign"] qdg _ _:=⟨qls F_49 T ,W.mg_of X G a_49,k_49,b_49⟩
 have C_44:Cal l.prog w K mg base "is_word" 1 ["text"] qex _ _:=⟨qjC F_44 T ,W.mg_of X G a_44,k_44,b_44⟩
 have C_19:Cal l.prog w K mg base "read_names" 2 ["text"] (qc8 K) _ _:=⟨qgx F_19 T C_49 C_44,W.mg_of X G a_19,k_19,b_19⟩
 have C_26:qmg l.prog w K mg base "read_name" 1 ["words", "word"] (qcV K cX) _ _:=⟨qgY F_26 T Z ,W.mg_of X G a_26,k_26,b_26⟩
 have C_36:Cal l.prog w K mg base "show_set" 1 ["words", "one"] qbs _ _:=⟨qid F_36 T ,W.mg_of X G a_36,k_36,b_36⟩
 have C_13:Cal l.prog w K mg base "show_family" 1 ["words", "family"] qbs _ _:=⟨qfF F_13 T ,W.mg_of X G a_13,k_13,b_13⟩
 have C_37:qmg l.prog w K mg base "read_set" 2 ["words", "text"] (qdl K cX) _ _:=⟨qii F_37 T Z C_49 C_48 C_26,W.mg_of X G a_37,k_37,b_37⟩
 have C_14:qmg l.prog w K mg base "read_family" 4 ["words", "text"] (qeO K cX) _ _:=⟨qfv F_14 T Z C_49 C_37 C_25,W.mg_of X G a_14,k_14,b_14⟩
 have C_54:Cal l.prog w K mg base "holds" 1 ["one", "other"] qim _ _:=⟨qnj F_54 T ,W.mg_of X G a_54,k_54,b_54⟩
 have C_55:Cal l.prog w K mg base "meets" 1 ["one", "other"] qhW _ _:=⟨qnd F_55 T ,W.mg_of X G a_55,k_55,b_55⟩
 have C_60:Cal l.prog w K mg base "rest" 1 ["many", "one"] qj4 _ _:=⟨qo2 F_60 T ,W.mg_of X G a_60,k_60,b_60⟩
 have C_61:Cal l.prog w K mg base "says" 2 ["family", "one"] (qf0 K) _ _:=⟨qn3 F_61 T C_54,W.mg_of X G a_61,k_61,b_61⟩
 have C_56:Cal l.prog w K mg base "least" 3 ["some"] (qdS K) _ _:=⟨qmT F_56 T C_61,W.mg_of X G a_56,k_56,b_56⟩
 have C_57:Cal l.prog w K mg base "rests" 2 ["many", "family"] (qhT K) _ _:=⟨qmy F_57 T C_60,W.mg_of X G a_57,k_57,b_57⟩
 have C_10:Cal l.prog w K mg base "first_missed" 2 ["family", "one"] (qih K) _ _:=⟨qe4 F_10 T C_55,W.mg_of X G a_10,k_10,b_10⟩
 have C_62:Cal l.prog w K mg base "hits" 3 ["many", "family"] (qkJ K) _ _:=⟨qow F_62 T C_61 C_10,W.mg_of X G a_62,k_62,b_62⟩
 have C_27:Cal l.prog w K mg base "always_in" 4 ["family", "k"] (qr4 K) _ _:=⟨qhf F_27 T C_56,W.mg_of X G a_27,k_27,b_27⟩
 have C_20:Cal l.prog w K mg base "always_out" 4 ["family", "k"] (qoI K) _ _:=⟨qgE F_20 T C_56,W.mg_of X G a_20,k_20,b_20⟩
 have C_50:Cal l.prog w K mg base "either" 4 ["one", "other"] (qgD K) _ _:=⟨qkB F_50 T C_56,W.mg_of X G a_50,k_50,b_50⟩
 have C_63:Cal l.prog w K mg base "both" 4 ["one", "other"] (qjL K) _ _:=⟨qoq F_63 T C_56,W.mg_of X G a_63,k_63,b_63⟩
 have C_00:Cal l.prog w K mg base "first_met_by_alone" 1 ["family", "one", "k"] qbs _ _:=⟨qcx F_00 T ,W.mg_of X G a_00,k_00,b_00⟩
 have C_51:Cal l.prog w K mg base "looked" 1 ["family", "one"] qbs _ _:=⟨qkl F_51 T ,W.mg_of X G a_51,k_51,b_51⟩
 have C_04:Cal l.prog w K mg base "first_left_out" 1 ["many", "one", "other"] qbs _ _:=⟨qdR F_04 T ,W.mg_of X G a_04,k_04,b_04⟩
 have C_64:Cal l.prog w K mg base "held" 1 ["many", "one", "other"] qbs _ _:=⟨qpw F_64 T ,W.mg_of X G a_64,k_64,b_64⟩
 have C_38:Cal l.prog w K mg base "table_of" 3 ["many", "family"] (qeI K) _ _:=⟨qhV F_38 T C_61,W.mg_of X G a_38,k_38,b_38⟩
 have C_45:Cal l.prog w K mg base "noes_by" 1 ["many", "family"] qbs _ _:=⟨qjD F_45 T ,W.mg_of X G a_45,k_45,b_45⟩
 have C_06:Cal l.prog w K mg base "first_parting" 1 ["many", "table", "x", "y"] qbs _ _:=⟨qen F_06 T ,W.mg_of X G a_06,k_06,b_06⟩
 have C_15:Cal l.prog w K mg base "compared_in" 1 ["many", "table", "x", "y"] qbs _ _:=⟨qfB F_15 T ,W.mg_of X G a_15,k_15,b_15⟩
 have C_39:Cal l.prog w K mg base "compared" 1 ["many", "family", "x", "y"] qbs _ _:=⟨qij F_39 T ,W.mg_of X G a_39,k_39,b_39⟩
 have C_28:Cal l.prog w K mg base "turned_by" 1 ["many", "table", "k"] (qf8 K) _ _:=⟨qhc F_28 T ,W.mg_of X G a_28,k_28,b_28⟩
 have C_58:Cal l.prog w K mg base "turns" 4 ["many", "family"] (qik K) _ _:=⟨qmU F_58 T C_38 C_28,W.mg_of X G a_58,k_58,b_58⟩
 have C_11:Cal l.prog w K mg base "show_numbers" 1 ["numbers"] (qeH K) _ _:=⟨qeG F_11 T ,W.mg_of X G a_11,k_11,b_11⟩
 have C_01:Cal l.prog w K mg base "show_word_and_sets" 1 ["words", "told"] qbs _ _:=⟨qcG F_01 T ,W.mg_of X G a_01,k_01,b_01⟩
 have C_16:Cal l.prog w K mg base "show_looked" 1 ["words", "told"] qbs _ _:=⟨qfA F_16 T ,W.mg_of X G a_16,k_16,b_16⟩
 have C_52:Cal l.prog w K mg base "ranked" 1 ["counts"] qbs _ _:=⟨qjM F_52 T ,W.mg_of X G a_52,k_52,b_52⟩
 have C_59:Cal l.prog w K mg base "ranks" 1 ["many", "family"] qbs _ _:=⟨qmK F_59 T ,W.mg_of X G a_59,k_59,b_59⟩
 have C_21:Cal l.prog w K mg base "show_alike" 1 ["words", "names"] qbs _ _:=⟨qgn F_21 T ,W.mg_of X G a_21,k_21,b_21⟩
 have C_22:Cal l.prog w K mg base "show_ranks" 1 ["words", "told"] qbs _ _:=⟨qgp F_22 T ,W.mg_of X G a_22,k_22,b_22⟩
 have C_29:Cal l.prog w K mg base "weight_of" 1 ["weights", "one"] qbs _ _:=⟨qhv F_29 T ,W.mg_of X G a_29,k_29,b_29⟩
 have C_53:Cal l.prog w K mg base "traded" 1 ["x", "y", "s", "t"] qbs _ _:=⟨qke F_53 T ,W.mg_of X G a_53,k_53,b_53⟩
 have C_17:Cal l.prog w K mg base "bar_between" 1 ["weights", "yes", "no"] qbs _ _:=⟨qfz F_17 T ,W.mg_of X G a_17,k_17,b_17⟩
 have C_07:Cal l.prog w K mg base "falling_lists" 1 ["length", "most"] qbs _ _:=⟨qej F_07 T ,W.mg_of X G a_07,k_07,b_07⟩
 have C_30:Cal l.prog w K mg base "given_out" 1 ["many", "lists", "falling"] qbs _ _:=⟨qho F_30 T ,W.mg_of X G a_30,k_30,b_30⟩
 have C_46:Cal l.prog w K mg base "weighed" 1 ["many", "family", "lists"] qbs _ _:=⟨qjq F_46 T ,W.mg_of X G a_46,k_46,b_46⟩
 have C_23:Cal l.prog w K mg base "by_weights" 1 ["many", "family"] qbs _ _:=⟨qgH F_23 T ,W.mg_of X G a_23,k_23,b_23⟩
 have C_12:Cal l.prog w K mg base "show_weights" 1 ["words", "told"] qbs _ _:=⟨qeC F_12 T ,W.mg_of X G a_12,k_12,b_12⟩
 have C_03:Cal l.prog w K mg base "compared_unlike" 1 ["many", "family", "x", "y"] qbs _ _:=⟨qdm F_03 T ,W.mg_of X G a_03,k_03,b_03⟩
 have C_40:Cal l.prog w K mg base "new_name" 2 ["word"] qfl _ _:=⟨qie F_40 T C_44,W.mg_of X G a_40,k_40,b_40⟩
 have C_41:Cal l.prog w K mg base "parts_of" 1 ["row"] (qeM K) _ _:=⟨qhP F_41 T Z ,W.mg_of X G a_41,k_41,b_41⟩
 have C_08:qpC l.prog w K mg base cD 3 ["self", "text"] (qjU cD) _ _:=⟨qem F_08 T Z C_19,⟨mkD,a_08,i_08,kpD⟩,b_08⟩
 have C_05:qlN l.prog w K mg base cD "family_by" 1 ["self", "word"] (qh5 cD cN) _ _:=⟨qdI F_05 T Z ,⟨a_05,i_05,k_05⟩,b_05⟩
 have C_02:qlN l.prog w K mg base cD "look_for_room" 1 ["self", "name"] (qlx cD cF) _ _:=⟨qcB F_02 T Z ,⟨a_02,i_02,k_02⟩,b_02⟩
 have C_09:qlN l.prog w K mg base cD "thing_of" 5 ["self", "kind", "word"] (qip cD cX cN) _ _:=⟨qep F_09 T Z C_14 C_40 C_05 C_26 C_37,⟨a_09,i_09,k_09⟩,b_09⟩
 have C_65:Cal l.prog w K mg base "made" 5 ["many", "deed", "things"] (qly K) _ _:=⟨qpo F_65 T C_20 C_62 C_57 C_50 C_63 C_27,W.mg_of X G a_65,k_65,b_65⟩
 have C_42:Cal l.prog w K mg base "answered" 5 ["words", "deed", "things"] (qdY K) _ _:=⟨qis F_42 T C_12 C_13 C_16 C_01 C_11 C_22 C_23 C_61 C_51 C_64 C_03 C_58 C_59,W.mg_of X G a_42,k_42,b_42⟩
 have C_43:qlN l.prog w K mg base cD "say" 6 ["self", "row"] (qnc cD cX cN cF) _ _:=⟨qh1 F_43 T Z C_41 C_42 C_09 C_02 C_65,⟨a_43,i_43,k_43⟩,b_43⟩
 have C_31:Cal l.prog w K mg base "_law_name" 1 ["_law_k"] (qh4 K) _ _:=⟨qhK F_31 T ,W.mg_of X G a_31,k_31,b_31⟩
 have C_32:Cal l.prog w K mg base "_law_kind" 7 ["_law_desk", "_law_row"] (qj7 cD) _ _:=⟨qhB F_32 T Z C_43,W.mg_of X G a_32,k_32,b_32⟩
 exact qqV F_law T Z C_24 C_18 C_08 C_34 C_31 C_43 C_32
def walk {l:W.OpenLaw} {q:Program} {loose:List Str} {XP:(Str->Option Value)->Heap->Prop} {YP:World->Heap->Prop} {d:DefRec} {K:Params->W.Frag} (hn:l.most=some 63) (hdf:d.params.defaults=[])
   (hY:∀(w:World) (h:Heap),YP w h->(K w.params).In h)
   (F:∀(w:World) (mg:Str->Option Value) (fa:Addr) (h:Heap),(K w.params).In h->h.Ns mainGlobals mg->mg d.name=some (.ref fa) ->
     ∃fd:FuncData,(∀(s:Shared) (u:Value),BindsTo s fd ⟨[u],[]⟩ [("_law_script",u)])/\∀base:Heap,(K w.params).In base->base.Ns mainGlobals mg->qaN l.prog w (K w.params) mg base CX0 8 fa fd ["_law_script"] ((qlI (K w.params)))) :
   W.WalkO q loose XP YP l.row.toRowW d [] (fun f vs=>PySem.call f vs) :=
 L2.walk_of (n:=63) (k:=8) (x := "_law_script") (CX:=fun _=>CX0) (sp:=fun w=>(qlI (K w.params))) hn (by decide) hdf ⟨rfl,by decide,by decide⟩ hY F (fun _ _ a ns hl _ hS=>⟨_,rfl,a,ns,rfl,hS,hl,fun _=>rfl⟩) fun _ _ _ _ _ z=>z
end Zk51
namespace PySem.W.Fast
def tw13100473402236474526:=0
def tw3734873486095453977:=0
def tw14134661906279900275:=0
def tw369111635882414228:=0
def tw10827408976084020503:=0
def tw2541036229994081976:=0
def tw13464578828474892318:=0
def tw3536748510568753652:=0
def tw13235107752798481229:=0
def tw1440292573765566504:=0
def tw11462588333609978202:=0
def tw2839853629153749070:=0
def tw14838867505698881356:=0
def tw3926299289097067250:=0
def tw11831956773833824534:=0
def tw733472918385113392:=0
def tw3623931238109881092:=0
def tw13794669734583643764:=0
def tw12215657962797963369:=0
def tw15433692197207863778:=0
def tw186036730969299134:=0
def tw9859008560646500184:=0
def tw3629027057314457758:=0
def tw909097795218651998:=0
def tw10979247040328873893:=0
def tw3809778599355080324:=0
def tw13232855370299522199:=0
def tw269207781633380551:=0
def tw17195337090484031895:=0
def tw7080434024611737382:=0
def tw5437522318672272199:=0
def tw11328450282413938429:=0
def tw3395455042603192386:=0
def tw12574913266219269867:=0
def tw18135813678711998509:=0
def tw3085472710759787899:=0
def tw13156949912546038513:=0
def tw8431197742211595075:=0
def tw15246041120102882040:=0
def tw18143692786451307774:=0
def tw1298201372007106502:=0
def tw13132730056350204330:=0
def tw11383420826325447624:=0
def tw7517076875326172790:=0
def tw351999962937956339:=0
def tw16386888144570077179:=0
def tw12003090002319941022:=0
def tw12176868885465911704:=0
def tw4297612616559416212:=0
def tw10918310399245842388:=0
def tw7185806134672422362:=0
def tw12118511248766092729:=0
def tw14879359975827955782:=0
def tw10476097835116048716:=0
def tw7294020645319676932:=0
def tw12574747608346739946:=0
def tw14369020630632880511:=0
def tw1841315792419325151:=0
def tw8314005441401767900:=0
def tw17369105319164862977:=0
def tw14229368932890640102:=0
def tw14798471200158827659:=0
def tw9246117951476414960:=0
def tw2957409486190982797:=0
def tw16851146024270342730:=0
def tw17465694674289693792:=0
def tw12522410772469030640:=0
def tw5630896020362190823:=0
def tw14888020081292885850:=0
def tw2542572224017196295:=0
def tw105737223054724169:=0
def tw5469911235691499766:=0
def tw2340411639802566716:=0
def tw11529246371090867547:=0
def tw2345465017700371343:=0
def tw10127640249871495033:=0
def tw13120732122600664436:=0
def tw3722749991754096682:=0
def tw7119623969005318177:=0
def tw18314075782628370069:=0
def tw11886416736533284519:=0
def tw10719746819211144794:=0
def tw10672135756738381225:=0
def tw356495217679448879:=0
def tw7594271672880364203:=0
def tw7200970211549874131:=0
def tw7427417096072607491:=0
def tw8230771296910984012:=0
def tw11197817711526035420:=0
def tw11825094174433410809:=0
def tw6424658387157012003:=0
def tw3193788541224828656:=0
def tw12519604272096846598:=0
def tw9047255154055862214:=0
def tw7069163602779180833:=0
def tw12407589144354853951:=0
def tw12314140547804022600:=0
def tw14480411280957477809:=0
def tw3247211634625262576:=0
def tw12048664874352458640:=0
def tw6380563698020078226:=0
def tw11917144199949151993:=0
def tw4829776712404595133:=0
def tw4752007888045570750:=0
def tw6066547047976254620:=0
def tw14192197741921478060:=0
def tw5159302660886059763:=0
def tw775072257251582015:=0
def tw2145708244050120358:=0
def tw1722698969529378631:=0
def tw14795221210665267813:=0
def tw5219986209089182940:=0
def tw5755261243069725812:=0
def tw3109348124026872269:=0
def tw13921223568799961546:=0
def tw9092155555142243933:=0
def tw13187626568852433882:=0
def tw12195023585088279822:=0
def tw13656024417351045197:=0
def tw13517663519357244212:=0
def tw16284820015925232054:=0
def tw10118201359498770943:=0
def tw8496418872695145828:=0
def tw6883961159143216501:=0
def tw5718016055572220746:=0
def tw1382565056080648395:=0
def tw13457890630212582998:=0
def tw9550729493231177302:=0
def tw17385188612755159256:=0
def tw11278592359136584417:=0
def tw12428083106198916976:=0
def tw14212762338453748319:=0
def tw3821313605120516183:=0
def tw3274697519012177500:=0
def tw2758974258764630773:=0
def tw2694537833087663321:=0
def tw16719271207084658796:=0
def tw2900448176292362361:=0
def tw4206668950640751243:=0
def tw13264106799166898997:=0
def tw7370238343640461273:=0
def tw736791770363466607:=0
def tw9194516874921812027:=0
def tw4827704538073371539:=0
def tw12985057141450774151:=0
def tw2249120878169247863:=0
def tw12072716524925289907:=0
def tw11352086673647745893:=0
def tw17646816211296000994:=0
def tw2781175749735006845:=0
def tw11503142064302127637:=0
def tw17361227456851194074:=0
def tw15988742245638940274:=0
def tw15766522751820577245:=0
def tw2130373476501834153:=0
def tw16939816797945658530:=0
def tw7023647709098827632:=0
def tw8189183530939328408:=0
def tw1676727103826720726:=0
def tw14620545846036362329:=0
def tw7112349031403136432:=0
def tw16813077674352515834:=0
def tw16160360414187683505:=0
def tw6460160469596007664:=0
def tw8927645611900893976:=0
def tw11727225776262967172:=0
def tw9428003326310030830:=0
def tw12974359537402239486:=0
def tw7269592572681921751:=0
def tw3972140226448195693:=0
def tw15583409879343094724:=0
def tw17819558199968716338:=0
def tw16926849600003301284:=0
def tw14419529895098468221:=0
def tw17589910586468622907:=0
def tw3971632533630169306:=0
def tw9446659569984659130:=0
def tw5473326626066839148:=0
def tw18186566288154506965:=0
def tw16988762017571248903:=0
def tw8471579250409922049:=0
def tw4312496086737519173:=0
def tw15107357972543896297:=0
def tw11189930185481054084:=0
def tw15498622336858437935:=0
def tw4599299213491409721:=0
def tw2049146133208742923:=0
def tw15121160109052946093:=0
def tw5538598948846610473:=0
def tw2184767091382100461:=0
def tw1974007482099287242:=0
def tw9702326458171667082:=0
def tw6494942884998453194:=0
def tw13058464510952934241:=0
def tw6086678678662095311:=0
def tw2215097227984194136:=0
def tw1465479195296663780:=0
def tw10774860341684959304:=0
def tw11578474319216332000:=0
def tw13867766987900337204:=0
def tw4426921235994220717:=0
def tw13033696056129888585:=0
def tw14643115283450823706:=0
def tw11111774981617995940:=0
def tw10822544575843629950:=0
def tw1744989809113278354:=0
def tw7026360198528882822:=0
def tw4370161287687415662:=0
def tw17892562731238013322:=0
def tw2288593183375264045:=0
def tw9061802394203556176:=0
def tw1544683662807399958:=0
def tw11924581759678387365:=0
def tw6269307356950655182:=0
def tw17891269153794566192:=0
def tw16559186671597957895:=0
def tw15358083738352771769:=0
def tw9047082167075259471:=0
def tw12248158526535540389:=0
def tw414756893262780531:=0
def tw1652690676598330023:=0
def tw15429679627623004020:=0
def tw17160173232369161851:=0
def tw3695599609168766980:=0
def tw10282409907078818078:=0
def tw11246624134123509365:=0
def tw7343245977723054063:=0
def tw17542523136791252954:=0
def tw2083270139531652685:=0
def tw931439349802948991:=0
def tw3552415754276487718:=0
def tw9552328078222726893:=0
def tw4039921414278775053:=0
def tw10940243953463008821:=0
def tw10130825025715296728:=0
def tw15069161008103270186:=0
def tw17652216224662264587:=0
def tw9442934846916352039:=0
def tw156361997803790137:=0
def tw7675914622859162688:=0
def tw10279935695649221432:=0
def tw17721511092617457433:=0
def tw12573392191390670234:=0
def tw1727991012704550718:=0
def tw4059968336486946635:=0
def tw14220652755769498249:=0
def tw7949320093546896732:=0
def tw7976253423653559007:=0
def tw13354003949980715426:=0
def tw14668829279909469122:=0
def tw2020934348965008503:=0
def tw16924357373409397093:=0
def tw11025487515225769380:=0
def tw3575245996464831097:=0
def tw3640148182922110980:=0
def tw7488579769901239953:=0
def tw11927470823439532259:=0
def tw14551758872267404079:=0
def tw7689116807336896439:=0
def tw2665557308727608729:=0
def tw15699888566158262684:=0
def tw3028692019970243759:=0
def tw1934550733895266267:=0
def tw16770166904155760267:=0
def tw3848187562093063419:=0
def tw5341737806765008801:=0
def tw7099616464778517349:=0
def tw5358000312490576806:=0
def tw13015518571153921172:=0
def tw9209945396584316035:=0
def tw8845997330786963311:=0
def tw8360678074747039292:=0
def tw18182198813348052688:=0
def tw8905739435148264848:=0
def tw3672055792626804283:=0
def tw9724766052305203374:=0
def tw8279482984786093563:=0
def tw2106530267026860239:=0
def tw7975997837020522120:=0
def tw11842976269701169622:=0
def tw11972018250282193160:=0
def tw4479607961747088125:=0
def tw14978173389874706912:=0
def tw3937812687565367563:=0
def tw3530593530497628068:=0
def tw17015218207192373222:=0
def tw218945315090031548:=0
def tw8478928128401671142:=0
def tw698801752780705101:=0
def tw11458847383839170800:=0
def tw9507475988415072758:=0
def tw6575094203475867703:=0
def tw15815776544137770003:=0
def tw4695178651081532413:=0
def tw17570561466323501351:=0
def tw14831283450334882717:=0
def tw14769549345418701813:=0
def tw1346501515743181001:=0
def tw8586184458493968479:=0
def tw16844716543648873792:=0
def tw8127231293815730156:=0
def tw14342274145072250198:=0
def tw13392500045583690503:=0
def tw11654204610650715868:=0
def tw12514460191404536012:=0
def tw13284329680096396535:=0
def tw5426672708013522170:=0
def tw17332524802610534786:=0
def tw12797249227568918915:=0
def tw12902878757765575153:=0
def tw6875885187838090140:=0
def tw6890964397973661089:=0
def tw6612223064202299185:=0
def tw13253242318006956393:=0
def tw17197459814808368194:=0
def tw12108992093797396168:=0
def tw11098552285118566435:=0
def tw6208372156722911514:=0
def tw487747047354490228:=0
def tw9947257563749835407:=0
def tw12724125644321745577:=0
def tw7534788554852806130:=0
def tw8880616739230860577:=0
def tw15563844388976264521:=0
def tw8196508904536239086:=0
def tw10099635813723561713:=0
def tw16599662385501819421:=0
def tw4395614640330093404:=0
def tw11439367995110700951:=0
def tw10558059219511596572:=0
def tw9894535976382837121:=0
def tw2259763402408676274:=0
def tw16191996700039341739:=0
def tw2829863138837371716:=0
def tw4472115480501375071:=0
def tw15746305038794159419:=0
def tw15254665299113715033:=0
def tw5305282121872639888:=0
def tw2406901115774611813:=0
def tw4541292967063776740:=0
def tw5352055531230495581:=0
def tw2122217313527588034:=0
def tw15767279624983114656:=0
def tw3801623767922763290:=0
def tw12495522199237412054:=0
def tw17804739518974464952:=0
def tw17372805652036442393:=0
def tw5040165809796272355:=0
def tw3587108471037738953:=0
def tw5331824255797724052:=0
def tw8151710760682825137:=0
def tw16973799575213581201:=0
def tw1363389150496593122:=0
def tw6415008664294699474:=0
def tw6696671609418114654:=0
def tw10504709698004032326:=0
def tw749076306419982583:=0
def tw15544689725609939653:=0
def tw3140588484552699967:=0
def tw327481143198136331:=0
def tw18153757920449377972:=0
def tw12022878135608465381:=0
def tw8413817270862516600:=0
def tw1119773020706690839:=0
def tw3518041673431216996:=0
def tw15119182811666229626:=0
def tw6315637105853304955:=0
def tw15433150564254584549:=0
def tw6052904269948313497:=0
def tw2256105390509137971:=0
def tw9331314849671484597:=0
def tw7182888133172801313:=0
def tw11942218602385225538:=0
def tw1223824471536387564:=0
def tw1027487229649181084:=0
def tw10793010820953555045:=0
def tw13569464333271483066:=0
def tw8865421524595597906:=0
def tw8088592691760216463:=0
def tw12721451651782034556:=0
def tw14116750431971825419:=0
def tw3519143430792067759:=0
def tw7291208572311296831:=0
def tw6620862632849668605:=0
def tw13943170513781928736:=0
def tw9259463297563488358:=0
def tw18294828268686254069:=0
def tw12481435849068580652:=0
def tw11668175856830549197:=0
def tw12771784497218672911:=0
def tw4220408254758351258:=0
def tw17875905367935880063:=0
def tw7464464455087487216:=0
def tw13271826389564372912:=0
def tw17475201353031151554:=0
def tw6712458322758781227:=0
def tw13233980102205823901:=0
def tw9736424562124173395:=0
def tw9887783202009690544:=0
def tw17325093441741069957:=0
def tw17781144712732713010:=0
def tw7988546291840396850:=0
def tw17374006472839576571:=0
def tw8781873605310618865:=0
def tw11658015828774864097:=0
def tw5968031918301314818:=0
def tw10957071150875248231:=0
def tw15006456993967384733:=0
def tw18097745892538118084:=0
def tw7137335825563706192:=0
def tw2739767015779923713:=0
def tw8971337606567962937:=0
def tw17290204388259644300:=0
def tw13310056381556532422:=0
def tw12010214937517639361:=0
def tw16830502630858549266:=0
def tw1804937760246618473:=0
def tw7753545559518481523:=0
def tw1664810293629422351:=0
def tw9074938212971845319:=0
def tw9722048613602856928:=0
def tw4147486204800957572:=0
def tw6844956710095255507:=0
def tw9418471306979705808:=0
def tw17984335920589679793:=0
def tw11347084545754674698:=0
def tw17743738041168297211:=0
def tw17786027092613656389:=0
def tw26544788674846054:=0
def tw11398235900651554483:=0
def tw11676692913764928003:=0
def tw441202546916029509:=0
def tw6408375430698065934:=0
def tw7987350118087538513:=0
def tw16674125068567316076:=0
def tw9754839147694274768:=0
def tw6017159198922905224:=0
def tw2149230661528240556:=0
def tw2767954581614086309:=0
def tw1002122775839652071:=0
def tw5112112718903736633:=0
def tw4016838970388455472:=0
def tw2239269564641492907:=0
def tw1829464859599285310:=0
def tw3865335070979780494:=0
def tw11849622198169385467:=0
def tw2774118253891704946:=0
def tw18057465152451276034:=0
def tw17295415240320344944:=0
def tw7330710787444569260:=0
def tw9393939175694153034:=0
def tw9487612296304911277:=0
def tw9623248809513195275:=0
def tw16330889912263688790:=0
def tw1297190120135059684:=0
def tw13142206024311089586:=0
def tw4721540812199315054:=0
def tw10394777174966081380:=0
def tw2449815649050545875:=0
def tw11284270377802962975:=0
def tw15641516221356284399:=0
def tw8600331089353840196:=0
def tw5357887274839805998:=0
def tw5295347153060010409:=0
def tw6334335814743563772:=0
def tw10083560127467807620:=0
def tw7657630544317186978:=0
def tw364310497636041484:=0
def tw17135377186956090657:=0
def tw16300397438535054464:=0
def tw11728617117513814103:=0
def tw7880928031604070947:=0
def tw6101156759545510524:=0
def tw16155159837260781024:=0
def tw17913681139877314634:=0
def tw551546599887552328:=0
def tw3754863507859588598:=0
def tw11308462400420626557:=0
def tw9164409730435098283:=0
def tw7133650623811104472:=0
def tw18415724449833126825:=0
def tw7433538915104321800:=0
def tw661149305808131220:=0
def tw16802285318568548775:=0
def tw17397378028040753186:=0
def tw3538634046003522201:=0
def tw11209977639940879398:=0
def tw307171323115882636:=0
def tw1726923902367280542:=0
def tw18318066765840807957:=0
def tw11498910133603747794:=0
def tw12058010381713788659:=0
def tw16446218038085950805:=0
def tw16334196045529349117:=0
def tw8053019092027559026:=0
def tw3089453144261592548:=0
def tw8696467229122430004:=0
def tw2691958407801504179:=0
def tw18209839558097279416:=0
def tw2119796558291498892:=0
def tw13478129332341067695:=0
def tw3594585716783849930:=0
def tw10729681054439157653:=0
def tw10361267481875242890:=0
def tw1120991393799179300:=0
def tw2735319587290691214:=0
def tw6083172722945354874:=0
def tw15540096776180526139:=0
def tw5973798476430283929:=0
end PySem.W.Fast
open PySem PySem.W PyProof.Rows
set_option maxRecDepth 100000 in
set_option maxHeartbeats 0 in
theorem PySem.Challenge.cw_allhits_k51_a_full_desk_holds : PySem.Challenge.rw_allhits_k51_a_full_desk.Holds := by
 w_on;o_law;k_head;(case hw=>w_witness2)
 k_fill
 refine Zk51.walk (l:=PySem.Challenge.rw_allhits_k51_a_full_desk) rfl rfl (fun w h Y=>W.kIn_of Y) ?F
 case F =>
   intro w mg fa h KX G hmg
   refine' Zk51.all_mk KX G hmg ?a_33 ?l_33 ?c_33 ?k_33 ?a_24 ?l_24 ?c_24 ?k_24 ?a_34 ?l_34 ?c_34 ?k_34 ?a_18 ?l_18 ?c_18 ?k_18 ?a_47 ?l_47 ?c_47 ?k_47 ?a_25 ?l_25 ?c_25 ?k_25 ?a_35 ?l_35 ?c_35 ?k_35 ?a_48 ?l_48 ?c_48 ?k_48 ?a_49 ?l_49 ?c_49 ?k_49 ?a_44 ?l_44 ?c_44 ?k_44 ?a_19 ?l_19 ?c_19 ?k_19 ?a_26 ?l_26 ?c_26 ?k_26 ?a_36 ?l_36 ?c_36 ?k_36 ?a_13 ?l_13 ?c_13 ?k_13 ?a_37 ?l_37 ?c_37 ?k_37 ?a_14 ?l_14 ?c_14 ?k_14 ?a_54 ?l_54 ?c_54 ?k_54 ?a_55 ?l_55 ?c_55 ?k_55 ?a_60 ?l_60 ?c_60 ?k_60 ?a_61 ?l_61 ?c_61 ?k_61 ?a_56 ?l_56 ?c_56 ?k_56 ?a_57 ?l_57 ?c_57 ?k_57 ?a_10 ?l_10 ?c_10 ?k_10 ?a_62 ?l_62 ?c_62 ?k_62 ?a_27 ?l_27 ?c_27 ?k_27 ?a_20 ?l_20 ?c_20 ?k_20 ?a_50 ?l_50 ?c_50 ?k_50 ?a_63 ?l_63 ?c_63 ?k_63 ?a_00 ?l_00 ?c_00 ?k_00 ?a_51 ?l_51 ?c_51 ?k_51 ?a_04 ?l_04 ?c_04 ?k_04 ?a_64 ?l_64 ?c_64 ?k_64 ?a_38 ?l_38 ?c_38 ?k_38 ?a_45 ?l_45 ?c_45 ?k_45 ?a_06 ?l_06 ?c_06 ?k_06 ?a_15 ?l_15 ?c_15 ?k_15 ?a_39 ?l_39 ?c_39 ?k_39 ?a_28 ?l_28 ?c_28 ?k_28 ?a_58 ?l_58 ?c_58 ?k_58 ?a_11 ?l_11 ?c_11 ?k_11 ?a_01 ?l_01 ?c_01 ?k_01 ?a_16 ?l_16 ?c_16 ?k_16 ?a_52 ?l_52 ?c_52 ?k_52 ?a_59 ?l_59 ?c_59 ?k_59 ?a_21 ?l_21 ?c_21 ?k_21 ?a_22 ?l_22 ?c_22 ?k_22 ?a_29 ?l_29 ?c_29 ?k_29 ?a_53 ?l_53 ?c_53 ?k_53 ?a_17 ?l_17 ?c_17 ?k_17 ?a_07 ?l_07 ?c_07 ?k_07 ?a_30 ?l_30 ?c_30 ?k_30 ?a_46 ?l_46 ?c_46 ?k_46 ?a_23 ?l_23 ?c_23 ?k_23 ?a_12 ?l_12 ?c_12 ?k_12 ?a_03 ?l_03 ?c_03 ?k_03 ?a_40 ?l_40 ?c_40 ?k_40 ?a_41 ?l_41 ?c_41 ?k_41 ?a_08 ?i_08 ?l_08 ?c_08 ?k_08 ?a_05 ?i_05 ?l_05 ?c_05 ?k_05 ?a_02 ?i_02 ?l_02 ?c_02 ?k_02 ?a_09 ?i_09 ?l_09 ?c_09 ?k_09 ?a_65 ?l_65 ?c_65 ?k_65 ?a_42 ?l_42 ?c_42 ?k_42 ?a_43 ?i_43 ?l_43 ?c_43 ?k_43 ?a_31 ?l_31 ?c_31 ?k_31 ?a_32 ?l_32 ?c_32 ?k_32 ?a_law ?l_law ?c_law ?k_law ?z_isinstance ?z_int ?z_bool ?z_len ?z_range ?z_list ?z_str ?z_all ?z_set ?z_sorted ?z_zip ?z_ValueError ?v_MOST_SETS ?v_MOST_LETTERS ?v_MOST_NAMES ?v_NO_SETS ?v_NO_NAMES ?v_MOST_KEPT ?gD ?gW ?lW ?nW ?eW1 ?lW1 ?eW2 ?lW2 ?eW3 ?lW3 ?eW4 ?lW4 ?eW5 ?lW5 ?eW6 ?lW6 ?eW7 ?lW7 ?eW8 ?lW8 ?eW9 ?lW9 ?eW10 ?lW10 ?eW11 ?lW11 ?eW12 ?lW12 ?eW13 ?lW13 ?eW14 ?lW14 ?eW15 ?lW15 ?pgD ?hdD ?poD ?saD ?nwD ?nkD ?mkD ?kpD ?gX ?gN ?gF ?gH ?gO ?gM ?xX ?xN ?xF ?xH ?eH ?hX ?pX ?qX ?rX ?bX ?oX ?vX ?sXN ?dXN ?sXF ?dXF ?sXO ?dXO ?sXM ?dXM ?hN ?pN ?qN ?rN ?bN ?oN ?vN ?sNX ?dNX ?sNF ?dNF ?sNO ?dNO ?sNM ?dNM ?hF ?pF ?qF ?rF ?bF ?oF ?vF ?sFX ?dFX ?sFN ?dFN ?sFO ?dFO ?sFM ?dFM ?tX ?kX ?tN ?kN ?tF ?kF ?tO ?kO ?tM ?kM ?uS ?uE ?u2
   case gD=>k_is
   case gW=>k_is
   case lW=>k_is
   case gX=>k_is
   case gN=>k_is
   case gF=>k_is
   case gH=>k_is
   case gO=>k_is
   case gM=>k_is
   case a_33=>k_is
   case l_33=>k_is
   case c_33=>k_is
   case k_33=>k_is
   case a_24=>k_is
   case l_24=>k_is
   case c_24=>k_is
   case k_24=>k_is
   case a_34=>k_is
   case l_34=>k_is
   case c_34=>k_is
   case k_34=>k_is
   case a_18=>k_is
   case l_18=>k_is
   case c_18=>k_is
   case k_18=>k_is
   case a_47=>k_is
   case l_47=>k_is
   case c_47=>k_is
   case k_47=>k_is
   case a_25=>k_is
   case l_25=>k_is
   case c_25=>k_is
   case k_25=>k_is
   case a_35=>k_is
   case l_35=>k_is
   case c_35=>k_is
   case k_35=>k_is
   case a_48=>k_is
   case l_48=>k_is
   case c_48=>k_is
   case k_48=>k_is
   case a_49=>k_is
   case l_49=>k_is
   case c_49=>k_is
   case k_49=>k_is
   case a_44=>k_is
   case l_44=>k_is
   case c_44=>k_is
   case k_44=>k_is
   case a_19=>k_is
   case l_19=>k_is
   case c_19=>k_is
   case k_19=>k_is
   case a_26=>k_is
   case l_26=>k_is
   case c_26=>k_is
   case k_26=>k_is
   case a_36=>k_is
   case l_36=>k_is
   case c_36=>k_is
   case k_36=>k_is
   case a_13=>k_is
   case l_13=>k_is
   case c_13=>k_is
   case k_13=>k_is
   case a_37=>k_is
   case l_37=>k_is
   case c_37=>k_is
   case k_37=>k_is
   case a_14=>k_is
   case l_14=>k_is
   case c_14=>k_is
   case k_14=>k_is
   case a_54=>k_is
   case l_54=>k_is
   case c_54=>k_is
   case k_54=>k_is
   case a_55=>k_is
   case l_55=>k_is
   case c_55=>k_is
   case k_55=>k_is
   case a_60=>k_is
   case l_60=>k_is
   case c_60=>k_is
   case k_60=>k_is
   case a_61=>k_is
   case l_61=>k_is
   case c_61=>k_is
   case k_61=>k_is
   case a_56=>k_is
   case l_56=>k_is
   case c_56=>k_is
   case k_56=>k_is
   case a_57=>k_is
   case l_57=>k_is
   case c_57=>k_is
   case k_57=>k_is
   case a_10=>k_is
   case l_10=>k_is
   case c_10=>k_is
   case k_10=>k_is
   case a_62=>k_is
   case l_62=>k_is
   case c_62=>k_is
   case k_62=>k_is
   case a_27=>k_is
   case l_27=>k_is
   case c_27=>k_is
   case k_27=>k_is
   case a_20=>k_is
   case l_20=>k_is
   case c_20=>k_is
   case k_20=>k_is
   case a_50=>k_is
   case l_50=>k_is
   case c_50=>k_is
   case k_50=>k_is
   case a_63=>k_is
   case l_63=>k_is
   case c_63=>k_is
   case k_63=>k_is
   case a_00=>k_is
   case l_00=>k_is
   case c_00=>k_is
   case k_00=>k_is
   case a_51=>k_is
   case l_51=>k_is
   case c_51=>k_is
   case k_51=>k_is
   case a_04=>k_is
   case l_04=>k_is
   case c_04=>k_is
   case k_04=>k_is
   case a_64=>k_is
   case l_64=>k_is
   case c_64=>k_is
   case k_64=>k_is
   case a_38=>k_is
   case l_38=>k_is
   case c_38=>k_is
   case k_38=>k_is
   case a_45=>k_is
   case l_45=>k_is
   case c_45=>k_is
   case k_45=>k_is
   case a_06=>k_is
   case l_06=>k_is
   case c_06=>k_is
   case k_06=>k_is
   case a_15=>k_is
   case l_15=>k_is
   case c_15=>k_is
   case k_15=>k_is
   case a_39=>k_is
   case l_39=>k_is
   case c_39=>k_is
   case k_39=>k_is
   case a_28=>k_is
   case l_28=>k_is
   case c_28=>k_is
   case k_28=>k_is
   case a_58=>k_is
   case l_58=>k_is
   case c_58=>k_is
   case k_58=>k_is
   case a_11=>k_is
   case l_11=>k_is
   case c_11=>k_is
   case k_11=>k_is
   case a_01=>k_is
   case l_01=>k_is
   case c_01=>k_is
   case k_01=>k_is
   case a_16=>k_is
   case l_16=>k_is
   case c_16=>k_is
   case k_16=>k_is
   case a_52=>k_is
   case l_52=>k_is
   case c_52=>k_is
   case k_52=>k_is
   case a_59=>k_is
   case l_59=>k_is
   case c_59=>k_is
   case k_59=>k_is
   case a_21=>k_is
   case l_21=>k_is
   case c_21=>k_is
   case k_21=>k_is
   case a_22=>k_is
   case l_22=>k_is
   case c_22=>k_is
   case k_22=>k_is
   case a_29=>k_is
   case l_29=>k_is
   case c_29=>k_is
   case k_29=>k_is
   case a_53=>k_is
   case l_53=>k_is
   case c_53=>k_is
   case k_53=>k_is
   case a_17=>k_is
   case l_17=>k_is
   case c_17=>k_is
   case k_17=>k_is
   case a_07=>k_is
   case l_07=>k_is
   case c_07=>k_is
   case k_07=>k_is
   case a_30=>k_is
   case l_30=>k_is
   case c_30=>k_is
   case k_30=>k_is
   case a_46=>k_is
   case l_46=>k_is
   case c_46=>k_is
   case k_46=>k_is
   case a_23=>k_is
   case l_23=>k_is
   case c_23=>k_is
   case k_23=>k_is
   case a_12=>k_is
   case l_12=>k_is
   case c_12=>k_is
   case k_12=>k_is
   case a_03=>k_is
   case l_03=>k_is
   case c_03=>k_is
   case k_03=>k_is
   case a_40=>k_is
   case l_40=>k_is
   case c_40=>k_is
   case k_40=>k_is
   case a_41=>k_is
   case l_41=>k_is
   case c_41=>k_is
   case k_41=>k_is
   case a_08=>k_is
   case i_08=>k_is
   case l_08=>k_is
   case c_08=>k_is
   case k_08=>k_is
   case a_05=>k_is
   case i_05=>k_is
   case l_05=>k_is
   case c_05=>k_is
   case k_05=>k_is
   case a_02=>k_is
   case i_02=>k_is
   case l_02=>k_is
   case c_02=>k_is
   case k_02=>k_is
   case a_09=>k_is
   case i_09=>k_is
   case l_09=>k_is
   case c_09=>k_is
   case k_09=>k_is
   case a_65=>k_is
   case l_65=>k_is
   case c_65=>k_is
   case k_65=>k_is
   case a_42=>k_is
   case l_42=>k_is
   case c_42=>k_is
   case k_42=>k_is
   case a_43=>k_is
   case i_43=>k_is
   case l_43=>k_is
   case c_43=>k_is
   case k_43=>k_is
   case a_31=>k_is
   case l_31=>k_is
   case c_31=>k_is
   case k_31=>k_is
   case a_32=>k_is
   case l_32=>k_is
   case c_32=>k_is
   case k_32=>k_is
   case a_law=>k_is
   case l_law=>k_is
   case c_law=>k_is
   case k_law=>k_is
   case z_isinstance=>k_is
   case z_int=>k_is
   case z_bool=>k_is
   case z_len=>k_is
   case z_range=>k_is
   case z_list=>k_is
   case z_str=>k_is
   case z_all=>k_is
   case z_set=>k_is
   case z_sorted=>k_is
   case z_zip=>k_is
   case z_ValueError=>k_is
   case v_MOST_SETS=>k_is
   case v_MOST_LETTERS=>k_is
   case v_MOST_NAMES=>k_is
   case v_NO_SETS=>k_is
   case v_NO_NAMES=>k_is
   case v_MOST_KEPT=>k_is
   case nW=>rfl
   case eW1=>rfl
   case lW1=>k_is
   case eW2=>rfl
   case lW2=>k_is
   case eW3=>rfl
   case lW3=>k_is
   case eW4=>rfl
   case lW4=>k_is
   case eW5=>rfl
   case lW5=>k_is
   case eW6=>rfl
   case lW6=>k_is
   case eW7=>rfl
   case lW7=>k_is
   case eW8=>rfl
   case lW8=>k_is
   case eW9=>rfl
   case lW9=>k_is
   case eW10=>rfl
   case lW10=>k_is
   case eW11=>rfl
   case lW11=>k_is
   case eW12=>rfl
   case lW12=>k_is
   case eW13=>rfl
   case lW13=>k_is
   case eW14=>rfl
   case lW14=>k_is
   case eW15=>rfl
   case lW15=>k_is
   case pgD=>k_is
   case hdD=>k_is
   case poD=>k_is
   case saD=>k_is
   case nwD=>k_is
   case nkD=>k_is
   case mkD=>k_is
   case kpD=>k_is
   case xX=>k_exc
   case xN=>k_exc
   case xF=>k_exc
   case xH=>k_exc
   case eH=>k_is
   case hX=>k_is
   case pX=>k_is
   case qX=>k_is
   case rX=>k_is
   case bX=>k_is
   case oX=>k_is
   case vX=>k_is
   case sXN=>k_is
   case dXN=>rfl
   case sXF=>k_is
   case dXF=>rfl
   case sXO=>k_is
   case dXO=>rfl
   case sXM=>k_is
   case dXM=>rfl
   case hN=>k_is
   case pN=>k_is
   case qN=>k_is
   case rN=>k_is
   case bN=>k_is
   case oN=>k_is
   case vN=>k_is
   case sNX=>k_is
   case dNX=>rfl
   case sNF=>k_is
   case dNF=>rfl
   case sNO=>k_is
   case dNO=>rfl
   case sNM=>k_is
   case dNM=>rfl
   case hF=>k_is
   case pF=>k_is
   case qF=>k_is
   case rF=>k_is
   case bF=>k_is
   case oF=>k_is
   case vF=>k_is
   case sFX=>k_is
   case dFX=>rfl
   case sFN=>k_is
   case dFN=>rfl
   case sFO=>k_is
   case dFO=>rfl
   case sFM=>k_is
   case dFM=>rfl
   case tX=>k_is
   case kX=>k_is
   case tN=>k_is
   case kN=>k_is
   case tF=>k_is
   case kF=>k_is
   case tO=>k_is
   case kO=>k_is
   case tM=>k_is
   case kM=>k_is
   case uS=>k_is
   case uE=>rfl
   case u2=>k_is
