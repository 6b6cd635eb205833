import PyProof.Rows.All
import Wide.All
import OpenK.AllK
import Wide.FinOn
import Lean
import PyProof.EqAt
import PyProof.EqKinds
import PyProof.TupleCall
import PyProof.CompFree
import PyProof.CollectWalk
import PyProof.Rows.SetFrom
import PyProof.Rows.SortShell
import PySem.Challenge.RW_allhits_k42_votes_refused_and_apart
set_option Elab.async false
set_option linter.all false
set_option maxRecDepth 100000
namespace L2
open PySem PySem.Spec PyProof.Rows
abbrev Key := Sum Int Str
def keyIs : Key → Value → Bool
  | .inl k, v => Value.isInt k v
  | .inr x, v => Value.isStrOf x v
def keyH (w : World) : Key → Int
  | .inl k => hashInt k
  | .inr x => hashStr w x
theorem keyIs_shape : ∀ {k : Key} {v : Value}, keyIs k v = true → (∃ i t, k = Sum.inl i ∧ v = Value.int i t) ∨ (∃ x t, k = Sum.inr x ∧ v = Value.str x t)
  | .inl i, v, h => by
    obtain ⟨t, e⟩ := Value.isInt_shape (k := i) (v := v) h
    exact .inl ⟨i, t, rfl, e⟩
  | .inr x, v, h => by
    obtain ⟨t, e⟩ := Value.isStrOf_shape (x := x) (v := v) h
    exact .inr ⟨x, t, rfl, e⟩
theorem key_ll (a b : Int) : decide ((Sum.inl a : Key) = Sum.inl b) = (a == b) := by
  by_cases e : a = b
  · subst e; simp
  · have h : ¬ (Sum.inl a : Key) = Sum.inl b := fun q => e (Sum.inl.inj q)
    rw [decide_eq_false h]
    exact (beq_eq_false_iff_ne.mpr e).symm
theorem key_rr (a b : Str) : decide ((Sum.inr a : Key) = Sum.inr b) = decide (a = b) := by
  by_cases e : a = b
  · subst e; simp
  · have h : ¬ (Sum.inr a : Key) = Sum.inr b := fun q => e (Sum.inr.inj q)
    rw [decide_eq_false h, decide_eq_false e]
theorem key_lr (a : Int) (b : Str) : decide ((Sum.inl a : Key) = Sum.inr b) = false := decide_eq_false (fun q => nomatch q)
theorem key_rl (a : Str) (b : Int) : decide ((Sum.inr a : Key) = Sum.inl b) = false := decide_eq_false (fun q => nomatch q)
def mixKind (prog : Program) (w : World) : PySem.KeyKind prog w Key where
  is := keyIs
  hash := keyH w
  inj := fun v a b ha hb => by
    rcases keyIs_shape ha with ⟨i, t, rfl, rfl⟩ | ⟨x, t, rfl, rfl⟩
    · rcases keyIs_shape hb with ⟨j, u, rfl, e⟩ | ⟨y, u, rfl, e⟩
      · injection e with e1 _; rw [e1]
      · exact nomatch e
    · rcases keyIs_shape hb with ⟨j, u, rfl, e⟩ | ⟨y, u, rfl, e⟩
      · exact nomatch e
      · injection e with e1 _; rw [e1]
  byValue := fun k v h => by
    rcases keyIs_shape h with ⟨i, t, rfl, rfl⟩ | ⟨x, t, rfl, rfl⟩ <;> rfl
  pyHash := fun hv h => by
    rcases keyIs_shape hv with ⟨i, t, rfl, rfl⟩ | ⟨x, t, rfl, rfl⟩
    · exact wpAny_pyHash_int h
    · exact wpAny_pyHash_str h
  eqBool := fun hu hv h => by
    rcases keyIs_shape hu with ⟨i, t, rfl, rfl⟩ | ⟨x, t, rfl, rfl⟩
    · rcases keyIs_shape hv with ⟨j, u, rfl, rfl⟩ | ⟨y, u, rfl, rfl⟩
      · rw [key_ll] at h; exact wpAny_eqBool_int h
      · rw [key_lr] at h; exact SeqAt.EqAt.int_str i t y u _ _ _ _ h
    · rcases keyIs_shape hv with ⟨j, u, rfl, rfl⟩ | ⟨y, u, rfl, rfl⟩
      · rw [key_rl] at h; exact SeqAt.EqAt.str_int x t j u _ _ _ _ h
      · rw [key_rr] at h; exact wpAny_eqBool_str h
  «strs» := fun k x t v h => by
    rcases keyIs_shape h with ⟨i, u, rfl, e⟩ | ⟨y, u, rfl, e⟩
    · exact nomatch e
    · injection e with e1 _
      subst e1
      cases v <;> rfl
end L2
namespace L2
open PySem PySem.Spec PyProof.Rows
inductive V where
  | non | bl (b : Bool) | int (i : Int) | str (x : Str) | byt (b : Array UInt8) | flt (b : UInt64) | ref (a : Addr) | ty (n : String)
  deriving DecidableEq
def RelV : V → Value → Prop
  | .non, u => u = Value.none
  | .bl b, u => u = Value.bool b
  | .int i, u => ∃ t, u = Value.int i t
  | .str x, u => ∃ t, u = Value.str x t
  | .byt b, u => ∃ t, u = Value.bytes b t
  | .flt b, u => ∃ t, u = Value.float b t
  | .ref a, u => u = Value.ref a
  | .ty n, u => u = Value.type n
abbrev Vals : List V → List Value → Prop := Paired RelV
theorem Vals.length {xs : List V} {us : List Value} (r : Vals xs us) : xs.length = us.length := Paired.length r
theorem Vals.get : ∀ {xs : List V} {us : List Value} {i : Nat} {x : V}, Vals xs us → xs[i]? = some x → ∃ u, us[i]? = some u ∧ RelV x u
  | _, _, _, _, .nil, e => by simp at e
  | _, _, 0, _, .cons r _, e => by simp at e; subst e; exact ⟨_, rfl, r⟩
  | _, _, i + 1, x, .cons _ t, e => by
    obtain ⟨u, h1, h2⟩ := Vals.get (i := i) (x := x) t (by simpa using e)
    exact ⟨u, by simpa using h1, h2⟩
theorem Vals.set {x : V} {u : Value} (r : RelV x u) : ∀ {xs : List V} {us : List Value} (i : Nat), Vals xs us → Vals (xs.set i x) (us.set i u)
  | _, _, _, .nil => .nil
  | _, _, 0, .cons _ t => .cons r t
  | _, _, i + 1, .cons q t => .cons q (Vals.set r i t)
theorem Vals.append : ∀ {xs ys : List V} {us ws : List Value}, Vals xs us → Vals ys ws → Vals (xs ++ ys) (us ++ ws)
  | _, _, _, _, .nil, s => s
  | _, _, _, _, .cons r t, s => .cons r (Vals.append t s)
theorem Vals.take : ∀ {xs : List V} {us : List Value} (n : Nat), Vals xs us → Vals (xs.take n) (us.take n)
  | _, _, 0, _ => .nil
  | _, _, _ + 1, .nil => .nil
  | _, _, n + 1, .cons r t => .cons r (Vals.take n t)
theorem Vals.drop : ∀ {xs : List V} {us : List Value} (n : Nat), Vals xs us → Vals (xs.drop n) (us.drop n)
  | _, _, 0, r => r
  | _, _, _ + 1, .nil => .nil
  | _, _, n + 1, .cons _ t => Vals.drop n t
theorem Vals.none_of : ∀ {xs : List V} {us : List Value} {i : Nat}, Vals xs us → xs[i]? = none → us[i]? = none := fun {xs us i} r e => by
  have h1 := r.length
  have h2 : xs.length ≤ i := List.getElem?_eq_none_iff.mp e
  exact List.getElem?_eq_none_iff.mpr (by omega)
def RelO : Option V → Option Value → Prop
  | some v, some u => RelV v u
  | none, none => True
  | _, _ => False
def KV {κ : Type} : List (κ × V) → List (κ × Value) → Prop := Paired fun (p : κ × V) (q : κ × Value) => p.1 = q.1 ∧ RelV p.2 q.2
def kV : Key → V
  | .inl i => .int i
  | .inr x => .str x
inductive HO where
  
  | lst (xs : List V)
  
  | tup (xs : List V)
  
  | dK (kvs : List (Key × V)) | dT (kvs : List (List Key × V))
  
  | set (S : Int → Bool) (n : Nat)
  
  | ins (C dx : Addr) (fs : List (Str × V))
  
  | own (x : Addr)
  
  | xd (fs : List (Str × V))
  
  | met (f x : Addr)
  
  | rng (lo hi : Int)
  
  | frz (o : Obj) (u : HO)
  
  | tbl (ps : Array Value)
  
  | ext (φ : Heap → Prop)
abbrev Hp := Addr → Option HO
def upd (H : Hp) (a : Addr) (o : HO) : Hp := fun b => if b = a then some o else H b
theorem upd_same {H : Hp} {a : Addr} {o : HO} : upd H a o a = some o := by unfold upd; rw [if_pos rfl]
theorem upd_ne {H : Hp} {a b : Addr} {o : HO} (h : b ≠ a) : upd H a o b = H b := by unfold upd; rw [if_neg h]
theorem upd_upd {H : Hp} {a : Addr} {o u : HO} : upd (upd H a o) a u = upd H a u := by
  funext b; unfold upd; split <;> rfl
theorem ne_of_none {H : Hp} {a b : Addr} {o : HO} (h : H a = some o) (h' : H b = none) : a ≠ b := by
  intro e; subst e; rw [h] at h'; cases h'
section
variable (P : Program) (w : World)
def ObjOk (H : Hp) (h : Heap) (a : Addr) : HO → Prop
  | .lst xs => xs.length ≤ sizeLine ∧ ∃ (its : List Value) (n : Nat), Vals xs its ∧ h.get? a = some { cls := .type "list", data := .seq its.toArray n }
  | .tup xs => xs.length ≤ sizeLine ∧ ∃ its : List Value, Vals xs its ∧ IsTup h a its.toArray
  | .dK kvs => kvs.length ≤ sizeLine ∧ (a == sysModules) = false ∧ ∃ vs, KV kvs vs ∧ h.DictOf (mixKind P w) a vs
  | .dT kvs => kvs.length ≤ sizeLine ∧ (a == sysModules) = false ∧ ∃ xs : List (List Key × Addr × Value),
      Paired (fun (p : List Key × V) (q : List Key × Addr × Value) => p.1 = q.1 ∧ H q.2.1 = some (.tup (p.1.map kV)) ∧ RelV p.2 q.2.2) kvs xs ∧
      ∃ o es ep, h.get? a = some o ∧ o.ExactDict ∧ o.data = .dict es ep ∧ es.toList = xs.map (entryOfKey (tupleKind (mixKind P w))) ∧ (xs.map (·.1)).Nodup
  | .set S n => h.SetOf (intKind P w) a S n
  | .ins C dx fs => H dx = some (.own a) ∧ fs.length ≤ 1000 ∧ dx ≠ a ∧ h.get? a = some (PySem.W.instObj C dx) ∧
      ∃ mA, h.Ns1 dx mA ∧ (∀ f, RelO (fs.lookup f) (mA f)) ∧ PySem.Within mA (fs.map (·.1))
  | .own _ => ∃ o, h.get? a = some o
  | .xd fs => ∃ mA, h.Ns1 a mA ∧ ∀ f, RelO (fs.lookup f) (mA f)
  | .rng lo hi => ∃ t u v, h.get? a = some { cls := .type "range", data := .fields #[.int lo t, .int hi u, .int 1 v] }
  | .frz o u => h.get? a = some o ∧ ObjOk H h a u
  | .tbl ps => h.get? a = some { cls := .none, data := .fields ps }
  | .met f x => h.get? a = some (PySem.W.methodObj (.ref f) (.ref x))
  | .ext φ => φ h ∧ (∃ o, h.get? a = some o) ∧ ∀ h1 h2 : Heap, φ h1 → (∀ o, h1.get? a = some o → h2.get? a = some o) → φ h2
def HOk (H : Hp) (h : Heap) : Prop := ∀ a o, H a = some o → ObjOk P w H h a o
end
section
variable {P : Program} {w : World} {H H' : Hp} {h h' : Heap} {a : Addr} {o : HO}
theorem ObjOk.lt (x : ObjOk P w H h a o) : a < h.objs.size := by
  cases o with
  | lst xs => obtain ⟨_, _, _, _, e⟩ := x; exact Heap.lt_size e
  | tup xs => obtain ⟨_, _, _, p⟩ := x; exact p.lt
  | dK kvs => obtain ⟨_, _, _, _, o, _, _, e, _⟩ := x; exact Heap.lt_size e
  | dT kvs => obtain ⟨_, _, _, _, o, _, _, e, _⟩ := x; exact Heap.lt_size e
  | set S n => obtain ⟨o, _, _, _, e, _⟩ := x; exact Heap.lt_size e
  | ins C dx fs => obtain ⟨_, _, _, e, _⟩ := x; exact Heap.lt_size e
  | own y => obtain ⟨_, e⟩ := x; exact Heap.lt_size e
  | xd fs => obtain ⟨_, ⟨_, _, _, e, _⟩, _⟩ := x; exact Heap.lt_size e
  | rng lo hi => obtain ⟨_, _, _, e⟩ := x; exact Heap.lt_size e
  | frz ob u => obtain ⟨e, _⟩ := x; exact Heap.lt_size e
  | tbl ps => exact Heap.lt_size (show h.get? a = some _ from x)
  | met f y => exact Heap.lt_size (show h.get? a = some _ from x)
  | ext φ => obtain ⟨_, ⟨_, e⟩, _⟩ := x; exact Heap.lt_size e
theorem Paired.mapP {α β : Type} {F G : α → β → Prop} : ∀ {l₁ : List α} {l₂ : List β}, Paired F l₁ l₂ → (∀ a b, F a b → G a b) → Paired G l₁ l₂
  | _, _, .nil, _ => .nil
  | _, _, .cons r t, f => .cons (f _ _ r) (Paired.mapP t f)
theorem ObjOk.stay (x : ObjOk P w H h a o) (k : ∀ b u, (b = a ∨ H b = some (.own a)) → h.get? b = some u → h'.get? b = some u)
    (ho : ∀ b, H b = some (.own a) → H' b = some (.own a)) (ht : ∀ b xs, H b = some (.tup xs) → H' b = some (.tup xs)) : ObjOk P w H' h' a o := by
  induction o with
  | lst xs => obtain ⟨z, its, n, r, e⟩ := x; exact ⟨z, its, n, r, k _ _ (.inl rfl) e⟩
  | tup xs => obtain ⟨z, its, r, ob, e, c⟩ := x; exact ⟨z, its, r, ob, k _ _ (.inl rfl) e, c⟩
  | dK kvs => obtain ⟨z, y, vs, r, ob, es, ep, e, c⟩ := x; exact ⟨z, y, vs, r, ob, es, ep, k _ _ (.inl rfl) e, c⟩
  | dT kvs =>
    obtain ⟨z, y, xs, r, ob, es, ep, e, c⟩ := x
    exact ⟨z, y, xs, Paired.mapP r fun p q z => ⟨z.1, ht _ _ z.2.1, z.2.2⟩, ob, es, ep, k _ _ (.inl rfl) e, c⟩
  | set S n => obtain ⟨ob, es, ep, t, e, c⟩ := x; exact ⟨ob, es, ep, t, k _ _ (.inl rfl) e, c⟩
  | ins C dx fs =>
    obtain ⟨d, z, ne, e, mA, ⟨od, es, ep, e2, c⟩, r⟩ := x
    exact ⟨ho _ d, z, ne, k _ _ (.inl rfl) e, mA, ⟨od, es, ep, k _ _ (.inr d) e2, c⟩, r⟩
  | own y => obtain ⟨ob, e⟩ := x; exact ⟨ob, k _ _ (.inl rfl) e⟩
  | xd fs => obtain ⟨mA, ⟨od, es, ep, e, c⟩, r⟩ := x; exact ⟨mA, ⟨od, es, ep, k _ _ (.inl rfl) e, c⟩, r⟩
  | rng lo hi => obtain ⟨t, u, v, e⟩ := x; exact ⟨t, u, v, k _ _ (.inl rfl) e⟩
  | frz ob u ih => obtain ⟨e, q⟩ := x; exact ⟨k _ _ (.inl rfl) e, ih q⟩
  | tbl ps =>
    have e : h.get? a = some { cls := .none, data := .fields ps } := x
    show h'.get? a = some { cls := .none, data := .fields ps }
    exact k a _ (.inl rfl) e
  | met f y =>
    have e : h.get? a = some (PySem.W.methodObj (.ref f) (.ref y)) := x
    show h'.get? a = some (PySem.W.methodObj (.ref f) (.ref y))
    exact k a _ (.inl rfl) e
  | ext φ => obtain ⟨p, ⟨o, e⟩, st⟩ := x; exact ⟨st _ _ p fun o q => k _ _ (.inl rfl) q, ⟨o, k _ _ (.inl rfl) e⟩, st⟩
theorem HOk.lt (x : HOk P w H h) (e : H a = some o) : a < h.objs.size := (x a o e).lt
theorem HOk.fresh (x : HOk P w H h) (e : h.objs.size ≤ a) : H a = none := by
  cases q : H a with
  | none => rfl
  | some u => exact absurd (Nat.lt_of_lt_of_le (x.lt q) e) (Nat.lt_irrefl _)
theorem HOk.kept (x : HOk P w H h) (k : ∀ b u, h.get? b = some u → h'.get? b = some u) : HOk P w H h' := fun a o e =>
  (x a o e).stay (fun b u _ q => k b u q) (fun _ q => q) fun _ _ q => q
theorem HOk.laid (x : HOk P w H h) (k : ∀ b u, h.get? b = some u → h'.get? b = some u) (hp : h.objs.size ≤ a) (new : ObjOk P w (upd H a o) h' a o) : HOk P w (upd H a o) h' := fun b u e => by
  have hn := x.fresh hp
  by_cases hb : b = a
  · subst hb; rw [upd_same] at e; cases e; exact new
  · rw [upd_ne hb] at e
    exact (x b u e).stay (fun c v _ q => k c v q) (fun c q => by rw [upd_ne (ne_of_none q hn)]; exact q) fun c xs q => by rw [upd_ne (ne_of_none q hn)]; exact q
end
def Rd (H : Hp) (a : Addr) (u : HO) : Prop := H a = some u ∨ ∃ o, H a = some (.frz o u)
theorem Rd.of {H : Hp} {a : Addr} {u : HO} (h : H a = some u) : Rd H a u := .inl h
theorem Rd.ok {P : Program} {w : World} {H : Hp} {h : Heap} {a : Addr} {u : HO} (r : Rd H a u) (x : HOk P w H h) : ObjOk P w H h a u := by
  rcases r with r | ⟨o, r⟩
  · exact x a u r
  · obtain ⟨_, q⟩ := x a _ r
    exact q
def Mut : Option HO → Prop
  | some (.lst _) => True
  | some (.dK _) => True
  | some (.dT _) => True
  | some (.set _ _) => True
  | some (.ins _ _ _) => True
  | some (.ext _) => True
  | _ => False
section
variable {P : Program} {w : World} {H : Hp} {h h' : Heap} {x e : Addr} {o' : HO}
theorem HOk.write (ok : HOk P w H h) (mu : Mut (H x)) (he : e = x ∨ H e = some (.own x)) (k : ∀ b u, b ≠ e → h.get? b = some u → h'.get? b = some u) (heo : ∃ u, h'.get? e = some u)
    (new : ObjOk P w (upd H x o') h' x o') : HOk P w (upd H x o') h' := fun b u q => by
  have nown : ∀ c y, H c = some (.own y) → c ≠ x := fun c y r z => by subst z; rw [r] at mu; exact mu
  have ntup : ∀ c xs, H c = some (.tup xs) → c ≠ x := fun c xs r z => by subst z; rw [r] at mu; exact mu
  by_cases hb : b = x
  · subst hb; rw [upd_same] at q; cases q; exact new
  · rw [upd_ne hb] at q
    by_cases hbe : b = e
    · have q' : H b = some (.own x) := by
        rcases he with z | z
        · exact absurd (hbe.trans z) hb
        · rw [hbe]; exact z
      rw [q] at q'; cases q'
      obtain ⟨v, hv⟩ := heo
      exact ⟨v, by rw [hbe]; exact hv⟩
    · refine (ok b u q).stay (fun c v hc r => k c v ?_ r) (fun c r => by rw [upd_ne (nown c b r)]; exact r) fun c xs r => by rw [upd_ne (ntup c xs r)]; exact r
      rcases hc with rfl | hc
      · exact hbe
      · rintro rfl
        rcases he with z | z
        · exact nown c b hc z
        · rw [hc] at z; cases z; exact hb rfl
end
structure Un (fs ex : List Addr) (H H' : Hp) (h h' : Heap) : Prop where
  keep : ∀ b o, h.get? b = some o → H b = none → b ∉ fs → b ∉ ex → h'.get? b = some o
  slot : ∀ b o, h.get? b = some o → H b = none → b ∈ fs → b ∉ ex → ∃ sl, h'.get? b = some { o with slots := sl }
  free : ∀ b o, h.get? b = some o → H b = none → b ∉ ex → H' b = none
  there : ∀ b o, h.get? b = some o → b ∉ ex → ∃ o', h'.get? b = some o'
  tups : ∀ b xs, H b = some (.tup xs) → H' b = some (.tup xs)
  frzs : ∀ b o u, H b = some (.frz o u) → H' b = some (.frz o u)
  tbls : ∀ b ps, H b = some (.tbl ps) → ∃ more, H' b = some (.tbl (ps ++ more))
section
variable {fs fs' ex ex' : List Addr} {H H1 H2 : Hp} {h h1 h2 h' : Heap} {a x e : Addr} {o : HO}
theorem Un.any (u : Un fs ex H H1 h h1) {b : Addr} {ob : Obj} (q : h.get? b = some ob) (n : H b = none) (hx : b ∉ ex) : ∃ sl, h1.get? b = some { ob with slots := sl } := by
  by_cases hb : b ∈ fs
  · exact u.slot b ob q n hb hx
  · exact ⟨ob.slots, u.keep b ob q n hb hx⟩
theorem Un.trans (a : Un fs ex H H1 h h1) (b : Un fs ex H1 H2 h1 h2) : Un fs ex H H2 h h2 where
  keep := fun c ob q n hc hx => b.keep c ob (a.keep c ob q n hc hx) (a.free c ob q n hx) hc hx
  slot := fun c ob q n hc hx => by
    obtain ⟨sl, e1⟩ := a.slot c ob q n hc hx
    obtain ⟨sl', e2⟩ := b.slot c _ e1 (a.free c ob q n hx) hc hx
    exact ⟨sl', e2⟩
  free := fun c ob q n hx => by
    obtain ⟨o', e1⟩ := a.there c ob q hx
    exact b.free c o' e1 (a.free c ob q n hx) hx
  there := fun c ob q hx => by
    obtain ⟨o', e1⟩ := a.there c ob q hx
    exact b.there c o' e1 hx
  tups := fun c xs q => b.tups c xs (a.tups c xs q)
  frzs := fun c ob xs q => b.frzs c ob xs (a.frzs c ob xs q)
  tbls := fun c ps q => by
    obtain ⟨m1, e1⟩ := a.tbls c ps q
    obtain ⟨m2, e2⟩ := b.tbls c _ e1
    exact ⟨m1 ++ m2, by rw [e2, Array.append_assoc]⟩
theorem Un.kept (k : ∀ b u, h.get? b = some u → h'.get? b = some u) : Un fs ex H H h h' :=
  ⟨fun b ob q _ _ _ => k b ob q, fun b ob q _ _ _ => ⟨ob.slots, k b ob q⟩, fun _ _ _ n _ => n, fun b ob q _ => ⟨ob, k b ob q⟩, fun _ _ q => q, fun _ _ _ q => q, fun _ ps q => ⟨#[], by rw [q]; simp⟩⟩
theorem Un.refl : Un fs ex H H h h := Un.kept fun _ _ q => q
theorem Un.laid (k : ∀ b u, h.get? b = some u → h'.get? b = some u) (hp : h.objs.size ≤ a) (hn : H a = none) : Un fs ex H (upd H a o) h h' where
  keep := fun b u q _ _ _ => k b u q
  slot := fun b u q _ _ _ => ⟨u.slots, k b u q⟩
  free := fun b u q n _ => by rw [upd_ne (Nat.ne_of_lt (Nat.lt_of_lt_of_le (Heap.lt_size q) hp))]; exact n
  there := fun b u q _ => ⟨u, k b u q⟩
  tups := fun b xs q => by rw [upd_ne (ne_of_none q hn)]; exact q
  frzs := fun b u xs q => by rw [upd_ne (ne_of_none q hn)]; exact q
  tbls := fun b ps q => ⟨#[], by rw [upd_ne (ne_of_none q hn), q]; simp⟩
theorem Un.write (mu : Mut (H x)) (he : e = x ∨ H e = some (.own x)) (k : ∀ b u, b ≠ e → h.get? b = some u → h'.get? b = some u) (heo : ∃ u, h'.get? e = some u) : Un fs ex H (upd H x o) h h' := by
  have hx : ∀ b, H b = none → b ≠ x := fun b n z => by subst z; rw [n] at mu; exact mu
  have hb : ∀ b, H b = none → b ≠ e := fun b n z => by
    subst z
    rcases he with r | r
    · exact hx b n r
    · rw [n] at r; cases r
  have hm : ∀ b u, H b = some u → ¬ Mut (some u) → b ≠ x := fun b u q nm z => by subst z; rw [q] at mu; exact nm mu
  refine ⟨fun b u q n _ _ => k b u (hb b n) q, fun b u q n _ _ => ⟨u.slots, k b u (hb b n) q⟩, fun b u q n _ => by rw [upd_ne (hx b n)]; exact n, fun b u q _ => ?_,
    fun b xs q => by rw [upd_ne (hm b _ q fun z => z)]; exact q, fun b u xs q => by rw [upd_ne (hm b _ q fun z => z)]; exact q, fun b ps q => ⟨#[], by rw [upd_ne (hm b _ q fun z => z), q]; simp⟩⟩
  by_cases hbe : b = e
  · subst hbe; exact heo
  · exact ⟨u, k b u hbe q⟩
theorem Un.mono (u : Un fs ex H H1 h h1) (hs : ∀ b ∈ fs, b ∈ fs') (hx : ∀ b ∈ ex, b ∈ ex') : Un fs' ex' H H1 h h1 :=
  ⟨fun b ob q n hb he => u.keep b ob q n (fun z => hb (hs b z)) fun z => he (hx b z), fun _ _ q n _ he => u.any q n fun z => he (hx _ z), fun b ob q n he => u.free b ob q n fun z => he (hx b z), fun b ob q he => u.there b ob q fun z => he (hx b z), u.tups, u.frzs, u.tbls⟩
end
def trk (h : Heap) (H : Hp) : List Addr := (List.range h.objs.size).filter fun a => (H a).isSome
def hidT (h : Heap) (H : Hp) : Heap := PySem.W.hideAll h (trk h H)
theorem hidT_size (h : Heap) (H : Hp) : (hidT h H).objs.size = h.objs.size := PySem.W.hideAll_size _ _
theorem hidT_get {h : Heap} {H : Hp} {b : Addr} {o : Obj} (e : h.get? b = some o) (n : H b = none) : (hidT h H).get? b = some o :=
  PySem.W.hideAll_get _ e fun hm => by
    have q : (H b).isSome = true := (List.mem_filter.mp hm).2
    rw [n] at q; simp at q
theorem of_hidT {h : Heap} {H : Hp} {b : Addr} {o : Obj} (e : (hidT h H).get? b = some o) : h.get? b = some o ∧ H b = none := by
  have e' : h.get? b = some o := PySem.W.of_hideAll (trk h H) e
  refine ⟨e', ?_⟩
  cases q : H b with
  | none => rfl
  | some x =>
    have hm : b ∈ trk h H := List.mem_filter.mpr ⟨List.mem_range.mpr (Heap.lt_size e'), by simp [q]⟩
    have z : (hidT h H).get? b = none := PySem.W.hideAll_none (trk h H) hm
    rw [z] at e; cases e
def allNews (g h : Heap) (L : Addr) : List (Addr × Obj) := (List.range h.objs.size).filterMap fun a => if a = L ∨ (g.get? a).isSome = true then none else (h.get? a).map fun o => (a, o)
def rest (g h : Heap) (L d : Addr) : List (Addr × Obj) := (allNews g h L).filter fun p => decide (p.1 ≠ d)
end L2
namespace L2
open PySem PySem.Spec PyProof.Rows
structure Mod (K : PySem.W.Frag) (mg : Str → Option Value) (base : Heap) : Prop where
  kin : K.In base
  glob : base.Ns mainGlobals mg
  blt : ∃ mb, base.Ns builtinsNs mb ∧ ∀ x : Str, x ≠ "__name__" → mb x = bootBuiltins x
  nolimit : base.NoLimit
structure Cx where
  prog : Program
  w : World
  K : PySem.W.Frag
  mg : Str → Option Value
  base : Heap
  A : Around
  N : List Str
  s₀ : Shared
  H₀ : Hp
  env : Env
  outer : List Env
  stack : List Env
  ex : List Addr
  fn : Str → Bool
  calm : Bool
  pn : List (Addr × Obj)
  xe : Value → Shared → Prop
def frs (l : List Env) : List Addr := l.filterMap (·.frame)
abbrev Cx.fs (X : Cx) : List Addr := frs X.outer
def Vis (sc : Scope) (x : Str) : Prop := sc.names.lookup x = some .local ∨ sc.names.lookup x = some .cell ∨ sc.names.lookup x = some .free
def Loc (sc : Scope) (x : Str) : Prop := sc.names.lookup x = some .local ∨ sc.names.lookup x = some .cell
def Look (env : Env) (h : Heap) (m : Str → Option Value) (x : Str) (u : Value) : Prop :=
  (env.kindOf x = some .local ∧ m x = some u) ∨ ((env.kindOf x = some .cell ∨ env.kindOf x = some .free) ∧ ∃ c, env.cells.lookup x = some c ∧ h.IsCell c (some u))
structure Cx.Ok (X : Cx) : Prop where
  mod : Mod X.K X.mg X.base
  kind : X.env.scope.kind = .function
  glob : X.env.globals = mainGlobals
  blt : X.env.builtins = builtinsNs
  above : X.s₀.heap.objs.size ≤ X.env.locals
  inj : ∀ x y c, X.env.cells.lookup x = some c → X.env.cells.lookup y = some c → x = y
  has : ∀ x, (X.env.kindOf x = some .cell ∨ X.env.kindOf x = some .free) → ∃ c, X.env.cells.lookup x = some c
  cab : ∀ x c, X.fn x = true → X.env.cells.lookup x = some c → X.s₀.heap.objs.size ≤ c
  hd : X.calm = true → X.A.handled = none
  frames : X.A.frames = some X.stack
  stk : X.stack = X.outer ∨ (X.stack = X.env :: X.outer ∧ X.env.frame = some X.env.locals)
  exf : ∀ b ∈ X.ex, b ≠ X.env.locals ∧ ∀ x c, X.env.cells.lookup x = some c → c ≠ b
  bs : ∀ b o, X.base.get? b = some o → X.s₀.heap.get? b = some o ∧ X.H₀ b = none
  bsz : X.base.objs.size ≤ X.s₀.heap.objs.size
  noex : ∀ b o, X.base.get? b = some o → b ∉ X.ex
  exfs : ∀ b ∈ X.ex, b ∉ X.fs
  funs : X.s₀.heap.FunFrames X.base X.outer
  frf : ∀ b ∈ X.fs, X.H₀ b = none
structure Inv (X : Cx) (pins : List (Addr × Obj)) (σ : List (Option V)) (H : Hp) (s : Shared) : Prop where
  ok : X.Ok
  os : s.os = X.s₀.os
  bare : AllBare s.gens
  base : Un X.fs X.ex X.H₀ H X.s₀.heap s.heap
  loc : ∃ m, s.heap.Ns X.env.locals m ∧ ∀ (i : Nat) (x : Str) (v : V), X.N[i]? = some x → σ[i]? = some (some v) → Vis X.env.scope x → ∃ u, RelV v u ∧ Look X.env s.heap m x u
  cell : ∀ x c, X.env.cells.lookup x = some c → ∃ v, s.heap.IsCell c v
  free : H X.env.locals = none
  freeC : ∀ x c, X.env.cells.lookup x = some c → H c = none
  pin : ∀ p ∈ X.pn ++ pins, s.heap.get? p.1 = some p.2 ∧ H p.1 = none ∧ p.1 ≠ X.env.locals ∧ p.1 ∉ X.fs ∧ ∀ v, p.2.data ≠ .cell v
  hok : HOk X.prog X.w H s.heap
  len : σ.length = X.N.length
section
variable {X : Cx} {pins : List (Addr × Obj)} {σ : List (Option V)} {H H' : Hp} {s : Shared} {h' : Heap}
theorem Cx.Ok.nofr (ok : X.Ok) {b : Addr} {o : Obj} (e : X.base.get? b = some o) : b ∉ X.fs := fun hb => by
  have := (ok.funs.mem hb).1
  rw [e] at this; cases this
theorem Inv.bs (I : Inv X pins σ H s) : ∀ b o, X.base.get? b = some o → s.heap.get? b = some o ∧ H b = none := fun b o e =>
  ⟨I.base.keep b o (I.ok.bs b o e).1 (I.ok.bs b o e).2 (I.ok.nofr e) (I.ok.noex b o e), I.base.free b o (I.ok.bs b o e).1 (I.ok.bs b o e).2 (I.ok.noex b o e)⟩
theorem Inv.bk (I : Inv X pins σ H s) : ∀ b o, X.base.get? b = some o → s.heap.get? b = some o := fun b o e => (I.bs b o e).1
theorem Inv.mod (I : Inv X pins σ H s) : Mod X.K X.mg X.base := I.ok.mod
theorem Inv.kIn (I : Inv X pins σ H s) : X.K.In s.heap := I.ok.mod.kin.keeps I.bk
theorem Inv.nolimit (I : Inv X pins σ H s) : s.heap.NoLimit := I.ok.mod.nolimit.keeps I.bk
theorem Inv.fr (I : Inv X pins σ H s) : ∃ m, Fr X.base X.env.locals s.heap m :=
  let ⟨m, hn, _⟩ := I.loc
  ⟨m, hn, I.bk, Nat.le_trans I.ok.bsz I.ok.above⟩
theorem Inv.lt (I : Inv X pins σ H s) : X.env.locals < s.heap.objs.size := let ⟨_, hn, _⟩ := I.loc; hn.lt
theorem Inv.sz (I : Inv X pins σ H s) : X.s₀.heap.objs.size ≤ s.heap.objs.size := Nat.le_trans I.ok.above (Nat.le_of_lt I.lt)
theorem Inv.nofs (I : Inv X pins σ H s) {a : Addr} (h : s.heap.objs.size ≤ a) : a ∉ X.fs := fun hb => by
  obtain ⟨_, o, ho, _⟩ := I.ok.funs.mem hb
  exact absurd (Nat.lt_of_lt_of_le (Heap.lt_size ho) (Nat.le_trans I.sz h)) (Nat.lt_irrefl _)
theorem Inv.cne (I : Inv X pins σ H s) : ∀ x c, X.env.cells.lookup x = some c → c ≠ X.env.locals := fun x c e z => by
  obtain ⟨v, o, ho, hd⟩ := I.cell x c e
  obtain ⟨m, ⟨o', es, ep, ho', hd', _⟩, _⟩ := I.loc
  rw [z, ho'] at ho; cases ho; rw [hd'] at hd; cases hd
theorem Inv.funs (I : Inv X pins σ H s) : s.heap.FunFrames X.base X.outer := by
  have all : ∀ (l : List Env), (∀ b ∈ frs l, b ∈ X.fs) → X.s₀.heap.FunFrames X.base l → s.heap.FunFrames X.base l := by
    intro l
    induction l with
    | nil => intro _ _; trivial
    | cons env r ih =>
      intro hs hl
      obtain ⟨hk, ⟨L, o, hf, hn, ho, hd⟩, hr⟩ := hl
      have hL : L ∈ X.fs := hs L (by unfold frs; rw [List.filterMap_cons, hf]; exact List.mem_cons_self)
      obtain ⟨sl, e⟩ := I.base.slot L o ho (I.ok.frf L hL) hL fun z => I.ok.exfs L z hL
      exact ⟨hk, ⟨L, _, hf, hn, e, hd⟩, ih (fun b hb => hs b (by unfold frs; rw [List.filterMap_cons, hf]; exact List.mem_cons_of_mem _ hb)) hr⟩
  exact all X.outer (fun _ hb => hb) I.ok.funs
theorem Inv.stack (I : Inv X pins σ H s) : s.heap.FunFrames X.base X.stack := by
  rcases I.ok.stk with e | ⟨e, hf⟩
  · rw [e]; exact I.funs
  · rw [e]
    obtain ⟨m, hn, _⟩ := I.loc
    refine .cons (by rw [I.ok.kind]; decide) hf hn ?_ I.funs
    exact Heap.get?_none_of_le (Nat.le_trans I.ok.bsz I.ok.above)
theorem Inv.stkSub (I : Inv X pins σ H s) : ∀ b ∈ frs X.stack, b ∈ X.env.locals :: X.fs := fun b hb => by
  rcases I.ok.stk with e | ⟨e, hf⟩
  · rw [e] at hb; exact List.mem_cons_of_mem _ hb
  · rw [e] at hb
    unfold frs at hb
    rw [List.filterMap_cons, hf] at hb
    exact hb
theorem Inv.stkFree (I : Inv X pins σ H s) : ∀ b ∈ frs X.stack, H b = none := fun b hb => by
  rcases List.mem_cons.mp (I.stkSub b hb) with e | hb
  · rw [e]; exact I.free
  · obtain ⟨_, o, ho, _⟩ := I.ok.funs.mem hb
    exact I.base.free b o ho (I.ok.frf b hb) fun z => I.ok.exfs b z hb
theorem Inv.step {g' : Array GenState} {t' : Nat} {d' : Drawn} {ch : List Addr} (I : Inv X pins σ H s)
    (hch : ∀ b ∈ ch, (b ∈ X.ex ∨ X.s₀.heap.objs.size ≤ b) ∧ b ≠ X.env.locals ∧ (∀ x c, X.env.cells.lookup x = some c → c ≠ b) ∧ ∀ p ∈ X.pn ++ pins, p.1 ≠ b)
    (keep : ∀ b o, b ≠ X.env.locals → b ∉ X.fs → b ∉ ch → s.heap.get? b = some o → H b = none → h'.get? b = some o)
    (slot : ∀ b o, b ≠ X.env.locals → b ∈ X.fs → b ∉ ch → s.heap.get? b = some o → H b = none → ∃ sl, h'.get? b = some { o with slots := sl }) (free : ∀ b o, b ∉ ch → s.heap.get? b = some o → H b = none → H' b = none)
    (there : ∀ b o, b ∉ ch → s.heap.get? b = some o → ∃ o', h'.get? b = some o')
    (tups : ∀ b xs, H b = some (.tup xs) → H' b = some (.tup xs)) (frzs : ∀ b o u, H b = some (.frz o u) → H' b = some (.frz o u)) (tbls : ∀ b ps, H b = some (.tbl ps) → ∃ more, H' b = some (.tbl (ps ++ more)))
    (ns : ∀ m, s.heap.Ns X.env.locals m → h'.Ns X.env.locals m) (hok : HOk X.prog X.w H' h') (hg : AllBare g') :
    Inv X pins σ H' { s with heap := h', gens := g', drawn := d', toks := t' } := by
  have neL : ∀ b o, X.s₀.heap.get? b = some o → b ≠ X.env.locals := fun b o e => Nat.ne_of_lt (Nat.lt_of_lt_of_le (Heap.lt_size e) I.ok.above)
  have neC : ∀ b o, X.s₀.heap.get? b = some o → b ∉ X.ex → b ∉ ch := fun b o e hx hb => by
    rcases (hch b hb).1 with z | z
    · exact hx z
    · exact absurd (Nat.lt_of_lt_of_le (Heap.lt_size e) z) (Nat.lt_irrefl _)
  have cellK : ∀ x c, X.env.cells.lookup x = some c → ∀ v, s.heap.IsCell c v → h'.IsCell c v := fun x c e v ⟨o, ho, hd⟩ => by
    have nch : c ∉ ch := fun z => (hch c z).2.2.1 x c e rfl
    by_cases hc : c ∈ X.fs
    · obtain ⟨sl, q⟩ := slot c o (I.cne x c e) hc nch ho (I.freeC x c e)
      exact ⟨_, q, hd⟩
    · exact ⟨o, keep c o (I.cne x c e) hc nch ho (I.freeC x c e), hd⟩
  refine ⟨I.ok, I.os, hg, ⟨fun b o e n hb hx => ?_, fun b o e n hb hx => ?_, fun b o e n hx => ?_, fun b o e hx => ?_, fun b xs e => tups b xs (I.base.tups b xs e), fun b o xs e => frzs b o xs (I.base.frzs b o xs e), fun b ps e => ?_⟩, ?_, fun x c e => ?_, ?_, fun x c e => ?_, fun p hp => ?_, hok, I.len⟩
  · exact keep b o (neL b o e) hb (neC b o e hx) (I.base.keep b o e n hb hx) (I.base.free b o e n hx)
  · obtain ⟨sl, e1⟩ := I.base.slot b o e n hb hx
    obtain ⟨sl', e2⟩ := slot b _ (neL b o e) hb (neC b o e hx) e1 (I.base.free b o e n hx)
    exact ⟨sl', e2⟩
  · obtain ⟨o', e1⟩ := I.base.there b o e hx
    exact free b o' (neC b o e hx) e1 (I.base.free b o e n hx)
  · obtain ⟨o', e1⟩ := I.base.there b o e hx
    exact there b o' (neC b o e hx) e1
  · obtain ⟨m1, e1⟩ := I.base.tbls b ps e
    obtain ⟨m2, e2⟩ := tbls b _ e1
    exact ⟨m1 ++ m2, by rw [e2, Array.append_assoc]⟩
  · obtain ⟨m, hn, hl⟩ := I.loc
    refine ⟨m, ns m hn, fun i x v e1 e2 e3 => ?_⟩
    obtain ⟨u, r, l⟩ := hl i x v e1 e2 e3
    refine ⟨u, r, ?_⟩
    rcases l with l | ⟨k, c, e, z⟩
    · exact .inl l
    · exact .inr ⟨k, c, e, cellK x c e _ z⟩
  · obtain ⟨v, z⟩ := I.cell x c e
    exact ⟨v, cellK x c e v z⟩
  · obtain ⟨m, ⟨o, _, _, ho, _⟩, _⟩ := I.loc
    exact free _ o (fun z => (hch _ z).2.1 rfl) ho I.free
  · obtain ⟨v, o, ho, hd⟩ := I.cell x c e
    exact free c o (fun z => (hch c z).2.2.1 x c e rfl) ho (I.freeC x c e)
  · obtain ⟨e, n, ne, nf, d⟩ := I.pin p hp
    have nch : p.1 ∉ ch := fun z => (hch p.1 z).2.2.2 p hp rfl
    exact ⟨keep p.1 p.2 ne nf nch e n, free p.1 p.2 nch e n, ne, nf, d⟩
theorem Inv.un {t' : Nat} (I : Inv X pins σ H s) (u : Un X.fs [] H H' s.heap h') (hok : HOk X.prog X.w H' h') : Inv X pins σ H' { s with heap := h', toks := t' } := by
  obtain ⟨m, ⟨o, es, ep, ho, r⟩, _⟩ := id I.loc
  obtain ⟨sl, hL⟩ := u.any ho I.free (by simp)
  exact I.step (g' := s.gens) (d' := s.drawn) (ch := []) (fun _ z => nomatch z) (fun b o _ hb _ e n => u.keep b o e n hb (by simp)) (fun b o _ hb _ e n => u.slot b o e n hb (by simp)) (fun b o _ e n => u.free b o e n (by simp)) (fun b o _ e => u.there b o e (by simp)) u.tups u.frzs u.tbls (fun m' hm => by
    obtain ⟨o', es', ep', ho', r'⟩ := hm
    rw [ho] at ho'; cases ho'
    exact ⟨_, es', ep', hL, r'⟩) hok I.bare
theorem Inv.call {g' : Array GenState} {t' : Nat} {d' : Drawn} {ch : List Addr} (I : Inv X pins σ H s) (u : Un (frs X.stack) ch H H' s.heap h') (hok : HOk X.prog X.w H' h') (hg : AllBare g')
    (hch : ∀ b ∈ ch, (b ∈ X.ex ∨ X.s₀.heap.objs.size ≤ b) ∧ b ≠ X.env.locals ∧ (∀ x c, X.env.cells.lookup x = some c → c ≠ b) ∧ ∀ p ∈ X.pn ++ pins, p.1 ≠ b) :
    Inv X pins σ H' { s with heap := h', gens := g', drawn := d', toks := t' } := by
  obtain ⟨m, ⟨o, es, ep, ho, r⟩, _⟩ := id I.loc
  obtain ⟨sl, hL⟩ := u.any ho I.free fun z => (hch _ z).2.1 rfl
  exact I.step (ch := ch) hch (fun b o hL hb hc e n => u.keep b o e n (fun z => (List.mem_cons.mp (I.stkSub b z)).elim hL hb) hc) (fun b o _ _ hc e n => u.any e n hc) (fun b o hc e n => u.free b o e n hc) (fun b o hc e => u.there b o e hc) u.tups u.frzs u.tbls (fun m' hm => by
    obtain ⟨o', es', ep', ho', r'⟩ := hm
    rw [ho] at ho'; cases ho'
    exact ⟨_, es', ep', hL, r'⟩) hok hg
theorem Inv.turned {t' : Nat} {it : Addr} (I : Inv X pins σ H s) (k : ∀ b o, b ≠ it → s.heap.get? b = some o → h'.get? b = some o) (hn : H it = none) (hL : it ≠ X.env.locals)
    (h1 : it ∈ X.ex ∨ X.s₀.heap.objs.size ≤ it) (h2 : ∀ x c, X.env.cells.lookup x = some c → c ≠ it) (h3 : ∀ p ∈ X.pn ++ pins, p.1 ≠ it) : Inv X pins σ H { s with heap := h', toks := t' } := by
  have nit : ∀ b u, H b = some u → b ≠ it := fun b u e z => by rw [z, hn] at e; cases e
  refine I.step (g' := s.gens) (d' := s.drawn) (ch := [it]) (fun b hb => ?_) (fun b o _ _ hc e _ => k b o (fun z => hc (by simp [z])) e) (fun b o _ _ hc e _ => ⟨o.slots, k b o (fun z => hc (by simp [z])) e⟩) (fun _ _ _ _ n => n)
    (fun b o hc e => ⟨o, k b o (fun z => hc (by simp [z])) e⟩) (fun _ _ e => e) (fun _ _ _ e => e) (fun b ps e => ⟨#[], by rw [e]; simp⟩) (fun m hm => ?_) (fun b u e => ?_) I.bare
  · have e : b = it := by simpa using hb
    subst e
    exact ⟨h1, hL, h2, h3⟩
  · obtain ⟨o, es, ep, ho, r⟩ := hm
    exact ⟨o, es, ep, k _ o (Ne.symm hL) ho, r⟩
  · refine (I.hok b u e).stay (fun c v hc q => k c v ?_ q) (fun _ q => q) fun _ _ q => q
    rcases hc with z | z
    · rw [z]; exact nit b u e
    · exact nit c _ z
theorem Inv.tok (I : Inv X pins σ H s) (t : Nat) : Inv X pins σ H { s with toks := t } := I.un (h' := s.heap) (t' := t) Un.refl I.hok
theorem Inv.kept {t' : Nat} (I : Inv X pins σ H s) (k : ∀ b u, s.heap.get? b = some u → h'.get? b = some u) : Inv X pins σ H { s with heap := h', toks := t' } := I.un (Un.kept k) (I.hok.kept k)
theorem Inv.laid {a : Addr} {o : HO} {t' : Nat} (I : Inv X pins σ H s) (k : ∀ b u, s.heap.get? b = some u → h'.get? b = some u) (hp : s.heap.objs.size ≤ a) (new : ObjOk X.prog X.w (upd H a o) h' a o) :
    Inv X pins σ (upd H a o) { s with heap := h', toks := t' } := I.un (Un.laid k hp (I.hok.fresh hp)) (I.hok.laid k hp new)
theorem Inv.write {x e : Addr} {o : HO} {t' : Nat} (I : Inv X pins σ H s) (mu : Mut (H x)) (he : e = x ∨ H e = some (.own x)) (k : ∀ b u, b ≠ e → s.heap.get? b = some u → h'.get? b = some u) (heo : ∃ u, h'.get? e = some u)
    (new : ObjOk X.prog X.w (upd H x o) h' x o) : Inv X pins σ (upd H x o) { s with heap := h', toks := t' } := I.un (Un.write mu he k heo) (I.hok.write mu he k heo new)
theorem Inv.weak {σ' : List (Option V)} (I : Inv X pins σ H s) (hl : σ'.length = σ.length) (w : ∀ (i : Nat) v, σ'[i]? = some (some v) → σ[i]? = some (some v)) : Inv X pins σ' H s :=
  ⟨I.ok, I.os, I.bare, I.base, let ⟨m, hn, hl'⟩ := I.loc; ⟨m, hn, fun i x v e1 e2 e3 => hl' i x v e1 (w i v e2) e3⟩, I.cell, I.free, I.freeC, I.pin, I.hok, hl.trans I.len⟩
theorem Inv.pins_of {pins' : List (Addr × Obj)} (I : Inv X pins σ H s) (h : ∀ p ∈ pins', s.heap.get? p.1 = some p.2 ∧ H p.1 = none ∧ p.1 ≠ X.env.locals ∧ p.1 ∉ X.fs ∧ ∀ v, p.2.data ≠ .cell v) : Inv X pins' σ H s :=
  ⟨I.ok, I.os, I.bare, I.base, I.loc, I.cell, I.free, I.freeC, fun p hp => (List.mem_append.mp hp).elim (fun z => I.pin p (List.mem_append_left _ z)) (h p), I.hok, I.len⟩
theorem nodup_ix {N : List Str} (hN : N.Nodup) {i j : Nat} {x : Str} (a : N[i]? = some x) (b : N[j]? = some x) : i = j := by
  obtain ⟨h1, e1⟩ := List.getElem?_eq_some_iff.mp a
  obtain ⟨h2, e2⟩ := List.getElem?_eq_some_iff.mp b
  exact (List.getElem_inj hN).mp (e1.trans e2.symm)
theorem store_ok2 {M : Model} {A : Around} {E : Value → Shared → Prop} {i : Nat} {x : Str} {v : V} {u : Value} {Q : Unit → Shared → Prop} (I : Inv X pins σ H s) (hN : X.N.Nodup) (hi : X.N[i]? = some x) (hx : Loc X.env.scope x) (r : RelV v u)
    (h : ∀ s', Inv X pins (σ.set i (some v)) H s' → (∃ a, Heap.SameBut a s.heap s'.heap ∧ (a = X.env.locals ∨ X.env.cells.lookup x = some a)) → Q () s') (hf : X.fn x = true ∨ X.env.scope.names.lookup x = some .local := by first | exact .inl rfl | exact .inr rfl | assumption) : wpAny M A (storeName X.env x u) Q E s := by
  obtain ⟨m, hn, hl⟩ := id I.loc
  have hcls : (X.env.scope.kind == .class || (X.env.scope.kind == .module && X.env.locals != X.env.globals)) = false := by rw [I.ok.kind]; rfl
  have hiσ : i < σ.length := by rw [I.len]; exact (List.getElem?_eq_some_iff.mp hi).1
  have cne := I.cne
  have tracked : ∀ {a : Addr} {h' : Heap}, (∃ o, s.heap.get? a = some o ∧ H a = none) → Heap.SameBut a s.heap h' → HOk X.prog X.w H h' := fun {a h'} ha hs b ob e => by
    obtain ⟨_, _, hfree⟩ := ha
    refine (I.hok b ob e).stay (fun c w' hc q => (hs.2 c ?_).trans q) (fun _ q => q) fun _ _ q => q
    rintro rfl
    rcases hc with rfl | hc
    · rw [hfree] at e; cases e
    · rw [hfree] at hc; cases hc
  rcases hx with hk | hk
  · refine wpAny_storeName_local hk hn (fun h' hn' hs => ?_) hcls
    obtain ⟨oL, _, _, hoL, _⟩ := id hn
    refine h _ ⟨I.ok, I.os, I.bare, ⟨fun b o e n hb hx => ?_, fun b o e n hb hx => ?_, I.base.free, fun b o e hx => ?_, I.base.tups, I.base.frzs, I.base.tbls⟩, ⟨_, hn', fun j y v' e1 e2 e3 => ?_⟩, fun y c e => ?_, I.free, I.freeC, fun p hp => ?_, tracked ⟨oL, hoL, I.free⟩ hs, by simpa using I.len⟩ ⟨_, hs, .inl rfl⟩
    · exact (hs.2 b (Nat.ne_of_lt (Nat.lt_of_lt_of_le (Heap.lt_size e) I.ok.above))).trans (I.base.keep b o e n hb hx)
    · obtain ⟨sl, e1⟩ := I.base.slot b o e n hb hx
      exact ⟨sl, (hs.2 b (Nat.ne_of_lt (Nat.lt_of_lt_of_le (Heap.lt_size e) I.ok.above))).trans e1⟩
    · obtain ⟨o', e1⟩ := I.base.there b o e hx
      exact ⟨o', (hs.2 b (Nat.ne_of_lt (Nat.lt_of_lt_of_le (Heap.lt_size e) I.ok.above))).trans e1⟩
    · by_cases hj : j = i
      · subst hj
        rw [hi] at e1; cases e1
        rw [List.getElem?_set_self hiσ] at e2
        cases e2
        exact ⟨u, r, .inl ⟨hk, by simp⟩⟩
      · rw [List.getElem?_set_ne (Ne.symm hj)] at e2
        obtain ⟨u', r', q⟩ := hl j y v' e1 e2 e3
        refine ⟨u', r', ?_⟩
        rcases q with ⟨k, e⟩ | ⟨k, c, e, z⟩
        · refine .inl ⟨k, ?_⟩
          have : y ≠ x := fun e => hj (nodup_ix hN e1 (e ▸ hi))
          simp [this, e]
        · exact .inr ⟨k, c, e, z.sameBut hs (cne y c e)⟩
    · obtain ⟨w', z⟩ := I.cell y c e
      exact ⟨w', z.sameBut hs (cne y c e)⟩
    · obtain ⟨e, n, ne, nf, d⟩ := I.pin p hp
      exact ⟨(hs.2 p.1 ne).trans e, n, ne, nf, d⟩
  · have hfn : X.fn x = true := by
      rcases hf with z | z
      · exact z
      · rw [z] at hk; cases hk
    obtain ⟨c, hc⟩ := I.ok.has x (.inl hk)
    obtain ⟨w', z⟩ := I.cell x c hc
    refine wpAny_storeName_cell I.ok.kind hk hc z (fun h' hc' hs => ?_)
    obtain ⟨oc, hoc, hocd⟩ := id z
    refine h { s with heap := h' } ⟨I.ok, I.os, I.bare, ⟨fun b o e n hb hx => ?_, fun b o e n hb hx => ?_, I.base.free, fun b o e hx => ?_, I.base.tups, I.base.frzs, I.base.tbls⟩, ⟨m, hn.sameBut hs (Ne.symm (cne x c hc)), fun j y v' e1 e2 e3 => ?_⟩, fun y c' e => ?_, I.free, I.freeC, fun p hp => ?_, tracked ⟨oc, hoc, I.freeC x c hc⟩ hs, by simpa using I.len⟩ ⟨c, hs, .inr hc⟩
    · exact (hs.2 b (Nat.ne_of_lt (Nat.lt_of_lt_of_le (Heap.lt_size e) (I.ok.cab x c hfn hc)))).trans (I.base.keep b o e n hb hx)
    · obtain ⟨sl, e1⟩ := I.base.slot b o e n hb hx
      exact ⟨sl, (hs.2 b (Nat.ne_of_lt (Nat.lt_of_lt_of_le (Heap.lt_size e) (I.ok.cab x c hfn hc)))).trans e1⟩
    · obtain ⟨o', e1⟩ := I.base.there b o e hx
      exact ⟨o', (hs.2 b (Nat.ne_of_lt (Nat.lt_of_lt_of_le (Heap.lt_size e) (I.ok.cab x c hfn hc)))).trans e1⟩
    · by_cases hj : j = i
      · subst hj
        rw [hi] at e1; cases e1
        rw [List.getElem?_set_self hiσ] at e2
        cases e2
        exact ⟨u, r, .inr ⟨.inl hk, c, hc, hc'⟩⟩
      · rw [List.getElem?_set_ne (Ne.symm hj)] at e2
        obtain ⟨u', r', q⟩ := hl j y v' e1 e2 e3
        refine ⟨u', r', ?_⟩
        rcases q with q | ⟨k, c', e, z'⟩
        · exact .inl q
        · refine .inr ⟨k, c', e, z'.sameBut hs ?_⟩
          rintro rfl
          exact hj (nodup_ix hN e1 (I.ok.inj _ _ _ e hc ▸ hi))
    · by_cases hcc : c' = c
      · subst hcc; exact ⟨_, hc'⟩
      · obtain ⟨w2, z2⟩ := I.cell y c' e
        exact ⟨w2, z2.sameBut hs hcc⟩
    · obtain ⟨e, n, ne, nf, d⟩ := I.pin p hp
      refine ⟨(hs.2 p.1 ?_).trans e, n, ne, nf, d⟩
      intro q
      rw [q, hoc] at e
      have q' : oc = p.2 := Option.some.inj e
      exact d w' (by rw [← q']; exact hocd)
theorem store_ok {M : Model} {A : Around} {E : Value → Shared → Prop} {i : Nat} {x : Str} {v : V} {u : Value} {Q : Unit → Shared → Prop} (I : Inv X pins σ H s) (hN : X.N.Nodup) (hi : X.N[i]? = some x) (hx : Loc X.env.scope x) (r : RelV v u)
    (h : ∀ s', Inv X pins (σ.set i (some v)) H s' → Q () s') (hf : X.fn x = true ∨ X.env.scope.names.lookup x = some .local := by first | exact .inl rfl | exact .inr rfl | assumption) : wpAny M A (storeName X.env x u) Q E s :=
  store_ok2 I hN hi hx r (fun s' I' _ => h s' I') hf
theorem Inv.call' {s' : Shared} {ch : List Addr} (I : Inv X pins σ H s) (ho : s'.os = s.os) (u : Un (frs X.stack) ch H H' s.heap s'.heap) (hok : HOk X.prog X.w H' s'.heap) (hg : AllBare s'.gens)
    (hch : ∀ b ∈ ch, (b ∈ X.ex ∨ X.s₀.heap.objs.size ≤ b) ∧ b ≠ X.env.locals ∧ (∀ x c, X.env.cells.lookup x = some c → c ≠ b) ∧ ∀ p ∈ X.pn ++ pins, p.1 ≠ b) : Inv X pins σ H' s' := by
  obtain ⟨h', g', d', t', o'⟩ := s'
  have e : o' = s.os := ho
  subst e
  exact I.call (g' := g') (t' := t') (d' := d') u hok hg hch
end
abbrev XK := Value → Option Addr → Hp → Prop
abbrev St := List (Option V)
abbrev VK := V → Hp → Prop
abbrev TE := St → Hp → VK → Prop
abbrev TT := St → Hp → (Bool → Hp → Prop) → Prop
abbrev TA := St → Hp → (List V → Hp → Prop) → Prop
structure Ends where
  nx : St → Hp → Prop
  rt : VK
  bk : St → Hp → Prop := fun _ _ => False
  ct : St → Hp → Prop := fun _ _ => False
abbrev TS := Ends → St → Hp → Prop
def EP (X : Cx) (pins : List (Addr × Obj)) (σ : St) (Q : VK) (u : Value) (s' : Shared) : Prop := ∃ v H', Inv X pins σ H' s' ∧ RelV v u ∧ Q v H'
def TP (X : Cx) (pins : List (Addr × Obj)) (σ : St) (Q : Bool → Hp → Prop) (b : Bool) (s' : Shared) : Prop := ∃ H', Inv X pins σ H' s' ∧ Q b H'
def AP (X : Cx) (pins : List (Addr × Obj)) (σ : St) (Q : List V → Hp → Prop) (us : List Value) (s' : Shared) : Prop := ∃ vs H', Inv X pins σ H' s' ∧ Vals vs us ∧ Q vs H'
def SP (X : Cx) (pins : List (Addr × Obj)) (D : Ends) (f : Flow) (s' : Shared) : Prop :=
  match f with
  | .next => ∃ σ' H', Inv X pins σ' H' s' ∧ D.nx σ' H'
  | .brk => ∃ σ' H', Inv X pins σ' H' s' ∧ D.bk σ' H'
  | .cont => ∃ σ' H', Inv X pins σ' H' s' ∧ D.ct σ' H'
  | .ret u => ∃ v σ' H', Inv X pins σ' H' s' ∧ RelV v u ∧ D.rt v H'
def PE (X : Cx) (e : Expr) (t : TE) : Prop :=
  ∀ (pins : List (Addr × Obj)) (s : Shared) (σ : St) (H : Hp) (Q : VK), Inv X pins σ H s → t σ H Q → wpAny (model X.prog X.w) X.A (eval e X.env) (EP X pins σ Q) X.xe s
def PT (X : Cx) (e : Expr) (t : TT) : Prop :=
  ∀ (pins : List (Addr × Obj)) (s : Shared) (σ : St) (H : Hp) (Q : Bool → Hp → Prop), Inv X pins σ H s → t σ H Q → wpAny (model X.prog X.w) X.A (isTrue e X.env (eval e X.env)) (TP X pins σ Q) X.xe s
def PW (X : Cx) (e : Expr) (t : TT) : Prop :=
  ∀ (whole : Sem Value) (pins : List (Addr × Obj)) (s : Shared) (σ : St) (H : Hp) (Q : Bool → Hp → Prop), Inv X pins σ H s → t σ H Q → wpAny (model X.prog X.w) X.A (isTrue e X.env whole) (TP X pins σ Q) X.xe s
theorem PW.pt {X : Cx} {e : Expr} {t : TT} (h : PW X e t) : PT X e t := h _
def PA (X : Cx) (es : List Expr) (t : TA) : Prop :=
  ∀ (pos : Pos) (pins : List (Addr × Obj)) (s : Shared) (σ : St) (H : Hp) (Q : List V → Hp → Prop), Inv X pins σ H s → t σ H Q → wpAny (model X.prog X.w) X.A (spliced (backTo pos (starEach es X.env))) (AP X pins σ Q) X.xe s
def PS (X : Cx) (st : Stmt) (t : TS) : Prop :=
  ∀ (pins : List (Addr × Obj)) (s : Shared) (σ : St) (H : Hp) (D : Ends), Inv X pins σ H s → t D σ H → wpAny (model X.prog X.w) X.A (exec st X.env) (SP X pins D) X.xe s
def PSs (X : Cx) (st : List Stmt) (t : TS) : Prop :=
  ∀ (pins : List (Addr × Obj)) (s : Shared) (σ : St) (H : Hp) (D : Ends), Inv X pins σ H s → t D σ H → wpAny (model X.prog X.w) X.A (execs st X.env) (SP X pins D) X.xe s
theorem thn {α : Type} {t : Sem α} {Q Q' : α → Shared → Prop} {M : Model} {A : Around} {E : Value → Shared → Prop} {s : Shared} (h : wpAny M A t Q E s) (hQ : ∀ a s, Q a s → Q' a s) : wpAny M A t Q' E s := wpAny_mono h hQ fun _ _ x => x
end L2
namespace L2
open PySem PySem.Spec PyProof.Rows
section
variable {X : Cx}
def tVar (i : Nat) : TE := fun σ H Q => ∃ v, σ[i]? = some (some v) ∧ Q v H
def tC (v : V) : TE := fun _ H Q => Q v H
theorem pe_var {i : Nat} {x : Str} {pos : Pos} (hN : X.N[i]? = some x) (hv : Vis X.env.scope x) (hd : (x == ("__debug__" : Str)) = false := by decide) (hcd : (x == ("__classdict__" : Str)) = false := by decide) : PE X (.Name x pos) (tVar i) := by
  intro pins s σ H Q I h
  obtain ⟨v, e, h⟩ := h
  obtain ⟨m, hn, hl⟩ := I.loc
  obtain ⟨u, r, l⟩ := hl i x v hN e hv
  have fin : EP X pins σ Q u s := ⟨v, H, I, r, h⟩
  rcases l with ⟨hk, hm⟩ | ⟨hk, c, hc, hcell⟩
  · exact wpAny_Name (wpAny_loadName_local I.ok.kind hk hn hm fin) hd
  · rcases hk with hk | hk
    · exact wpAny_Name (wpAny_loadName_cell I.ok.kind hk hc hcell fin) hd
    · exact wpAny_Name (wpAny_loadName_free I.ok.kind hk hc hcell fin hcd) hd
theorem pe_int {i j pos} : PE X (.Constant (.int i) j pos) (tC (.int i)) := fun _ _ _ H _ I h => wpAny_Constant_int ⟨.int i, H, I.tok _, ⟨_, rfl⟩, h⟩
theorem pe_bl {b j pos} : PE X (.Constant (.bool b) j pos) (tC (.bl b)) := fun _ _ _ H _ I h => Constant_bool ⟨.bl b, H, I, rfl, h⟩
theorem pe_non {j pos} : PE X (.Constant .none j pos) (tC .non) := fun _ _ _ H _ I h => Constant_none ⟨.non, H, I, rfl, h⟩
theorem pe_str {x j pos} : PE X (.Constant (.str x) j pos) (tC (.str x)) := fun _ _ _ H _ I h => Calls.Constant_str ⟨.str x, H, I.tok _, ⟨_, rfl⟩, h⟩
def Gl (X : Cx) (x : Str) : Prop := X.env.kindOf x = some .globalImplicit
theorem ld_glob {E : Value → Shared → Prop} {pins : List (Addr × Obj)} {s : Shared} {σ : St} {H : Hp} {x : Str} {u : Value} {pos : Pos} {Q : Value → Shared → Prop} (I : Inv X pins σ H s) (hg : Gl X x) (hm : X.mg x = some u) (h : Q u s)
    (hd : (x == ("__debug__" : Str)) = false := by decide) : wpAny (model X.prog X.w) X.A (eval (.Name x pos) X.env) Q E s :=
  Calls.Name_function_global I.ok.kind hg (Calls.loadGlobal_global (by rw [I.ok.glob]; exact I.mod.glob.keeps I.bk) hm h) hd
theorem ld_blt {E : Value → Shared → Prop} {pins : List (Addr × Obj)} {s : Shared} {σ : St} {H : Hp} {x : Str} {u : Value} {pos : Pos} {Q : Value → Shared → Prop} (I : Inv X pins σ H s) (hg : Gl X x) (hm : X.mg x = none) (hv : bootBuiltins x = some u) (h : Q u s)
    (hn : x ≠ "__name__" := by decide) (hd : (x == ("__debug__" : Str)) = false := by decide) : wpAny (model X.prog X.w) X.A (eval (.Name x pos) X.env) Q E s := by
  obtain ⟨mb, h1, h2⟩ := I.mod.blt
  exact Calls.Name_function_global I.ok.kind hg (Calls.loadGlobal_builtin (by rw [I.ok.glob]; exact I.mod.glob.keeps I.bk) hm (by rw [I.ok.blt]; exact h1.keeps I.bk) ((h2 x hn).trans hv) h) hd
theorem pe_glob {x : Str} {v : V} {u : Value} {pos : Pos} (hg : Gl X x) (hm : X.mg x = some u) (r : RelV v u) (hd : (x == ("__debug__" : Str)) = false := by decide) : PE X (.Name x pos) (tC v) :=
  fun _ _ _ H _ I h => ld_glob I hg hm ⟨v, H, I, r, h⟩ hd
theorem pe_bltn {x : Str} {v : V} {u : Value} {pos : Pos} (hg : Gl X x) (hm : X.mg x = none) (hv : bootBuiltins x = some u) (r : RelV v u) (hn : x ≠ "__name__" := by decide) (hd : (x == ("__debug__" : Str)) = false := by decide) : PE X (.Name x pos) (tC v) :=
  fun _ _ _ H _ I h => ld_blt I hg hm hv ⟨v, H, I, r, h⟩ hn hd
variable {a b : Expr} {ta tb : TE} {pos : Pos}
def tB (t : TE) : TT := fun σ H Q => t σ H fun x H1 => ∃ c, x = .bl c ∧ Q c H1
theorem pt_val {e : Expr} {t : TE} (h : PE X e t) (he : ∀ whole, isTrue e X.env whole = (do let v ← whole; standAt e.pos; holding [v] (truthy v)) := by intro _; rfl) : PT X e (tB t) := by
  intro pins s σ H Q I hw
  refine isTrue_plain (thn (h pins s σ H _ I hw) fun v s1 ⟨x, H1, I1, r1, q1⟩ => ?_) (he _)
  obtain ⟨d, rfl, q⟩ := q1
  cases r1
  exact wpAny_truthy_bool ⟨H1, I1, q⟩
variable {tA tB' : TT} {rest : List Expr}
def tAnd (t u : TT) : TT := fun σ H Q => t σ H fun c H1 => if c = true then u σ H1 Q else Q false H1
def tOr (t u : TT) : TT := fun σ H Q => t σ H fun c H1 => if c = true then Q true H1 else u σ H1 Q
def tNot (t : TT) : TT := fun σ H Q => t σ H fun c H1 => Q (!c) H1
theorem pw_and1 (ha : PT X a tA) : PW X (.BoolOp .And [a] pos) tA := by
  intro wh pins s σ H Q I h
  refine isTrue_and (thn (ha pins s σ H Q I h) fun c s1 e => ?_)
  cases c with
  | true => exact isTrue_and_nil e
  | false => exact e
theorem pw_or1 (ha : PT X a tA) : PW X (.BoolOp .Or [a] pos) tA := by
  intro wh pins s σ H Q I h
  refine isTrue_or (thn (ha pins s σ H Q I h) fun c s1 e => ?_)
  cases c with
  | false => exact isTrue_or_nil e
  | true => exact e
theorem pw_and (ha : PT X a tA) (hb : PW X (.BoolOp .And (b :: rest) pos) tB') : PW X (.BoolOp .And (a :: b :: rest) pos) (tAnd tA tB') := by
  intro wh pins s σ H Q I h
  refine isTrue_and (thn (ha pins s σ H _ I h) fun c s1 ⟨H1, I1, q1⟩ => ?_)
  cases c with
  | true => exact hb wh pins s1 σ H1 Q I1 q1
  | false => exact ⟨H1, I1, q1⟩
theorem pw_or (ha : PT X a tA) (hb : PW X (.BoolOp .Or (b :: rest) pos) tB') : PW X (.BoolOp .Or (a :: b :: rest) pos) (tOr tA tB') := by
  intro wh pins s σ H Q I h
  refine isTrue_or (thn (ha pins s σ H _ I h) fun c s1 ⟨H1, I1, q1⟩ => ?_)
  cases c with
  | true => exact ⟨H1, I1, q1⟩
  | false => exact hb wh pins s1 σ H1 Q I1 q1
theorem pt_not (ha : PT X a tA) : PT X (.UnaryOp .Not a pos) (tNot tA) := by
  intro pins s σ H Q I h
  exact isTrue_not (ha pins s σ H (fun c H1 => Q (!c) H1) I h)
def tAndV (ta tb : TE) : TE := fun σ H Q => ta σ H fun x H1 => ∃ c, x = .bl c ∧ if c = true then tb σ H1 Q else Q (.bl false) H1
def tOrV (ta tb : TE) : TE := fun σ H Q => ta σ H fun x H1 => ∃ c, x = .bl c ∧ if c = true then Q (.bl true) H1 else tb σ H1 Q
def tNotV (ta : TE) : TE := fun σ H Q => ta σ H fun x H1 => ∃ c, x = .bl c ∧ Q (.bl (!c)) H1
theorem pe_one {op} {t : TE} (h : PE X a t) : PE X (.BoolOp op [a] pos) t := fun pins s σ H Q I hw => BoolOp_one (h pins s σ H Q I hw)
theorem pe_and (ha : PE X a ta) (hb : PE X (.BoolOp .And (b :: rest) pos) tb) : PE X (.BoolOp .And (a :: b :: rest) pos) (tAndV ta tb) := by
  intro pins s σ H Q I h
  refine BoolOp_and (thn (ha pins s σ H _ I h) fun v s1 ⟨x, H1, I1, r1, q1⟩ => ?_)
  obtain ⟨c, rfl, q1⟩ := q1
  cases r1
  refine wpAny_truthy_bool ?_
  cases c with
  | true => exact hb pins s1 σ H1 Q I1 q1
  | false => exact ⟨.bl false, H1, I1, rfl, q1⟩
end
end L2
namespace L2
open PySem PySem.Spec PyProof.Rows
def SqL (K : PySem.W.Frag) (H : Hp) (a : Addr) (xs : List V) : Prop :=
  Rd H a (.lst xs) ∨
    ∃ (o : Obj) (its : Array Value) (n : Nat), K.lookup a = some o ∧ o.cls = .type "list" ∧ o.dict = none ∧ o.data = .seq its n ∧ its.size ≤ sizeLine ∧ Vals xs its.toList
def SqT (K : PySem.W.Frag) (H : Hp) (a : Addr) (xs : List V) : Prop :=
  Rd H a (.tup xs) ∨
    ∃ (o : Obj) (its : Array Value) (n : Nat), K.lookup a = some o ∧ o.cls = .type "tuple" ∧ o.data = .seq its n ∧ its.size ≤ sizeLine ∧ Vals xs its.toList
def absV : Value → Option V
  | .none => some .non
  | .bool b => some (.bl b)
  | .int i _ => some (.int i)
  | .str x _ => some (.str x)
  | .bytes b _ => some (.byt b)
  | .float b _ => some (.flt b)
  | .ref a => some (.ref a)
  | .type n => some (.ty n)
  | _ => none
theorem RelV.abs {x : V} {u : Value} (r : RelV x u) : absV u = some x := by
  cases x with
  | non => cases r; rfl
  | bl _ => cases r; rfl
  | int _ => obtain ⟨t, rfl⟩ := r; rfl
  | str _ => obtain ⟨t, rfl⟩ := r; rfl
  | byt _ => obtain ⟨t, rfl⟩ := r; rfl
  | flt _ => obtain ⟨t, rfl⟩ := r; rfl
  | ref _ => cases r; rfl
  | ty _ => cases r; rfl
theorem RelV.inj {x y : V} {u : Value} (r : RelV x u) (q : RelV y u) : x = y := Option.some.inj (r.abs.symm.trans q.abs)
theorem Vals.inj : ∀ {xs ys : List V} {us : List Value}, Vals xs us → Vals ys us → xs = ys
  | _, _, _, .nil, .nil => rfl
  | _, _, _, .cons r t, .cons r' t' => by rw [r.inj r', Vals.inj t t']
section
variable {X : Cx} {pins : List (Addr × Obj)} {σ : St} {H : Hp} {s : Shared} {a : Addr} {xs ys : List V}
theorem SqL.of {K : PySem.W.Frag} (h : H a = some (.lst xs)) : SqL K H a xs := .inl (.inl h)
theorem SqT.of {K : PySem.W.Frag} (h : H a = some (.tup xs)) : SqT K H a xs := .inl (.inl h)
theorem Inv.list (I : Inv X pins σ H s) (h : SqL X.K H a xs) : ∃ its : List Value, Vals xs its ∧ PlainL s.heap a its.toArray ∧ xs.length ≤ sizeLine := by
  rcases h with h | ⟨o, its, n, hk, hc, hd, hs, hz, r⟩
  · obtain ⟨z, its, n, r, e⟩ := h.ok I.hok
    exact ⟨its, r, ⟨_, n, e, rfl, rfl, rfl⟩, z⟩
  · refine ⟨its.toList, r, ⟨o, n, I.kIn a o hk, hc, hd, by simpa using hs⟩, ?_⟩
    have e := r.length
    simp only [Array.length_toList] at e
    omega
theorem Inv.tuple (I : Inv X pins σ H s) (h : SqT X.K H a xs) : ∃ its : List Value, Vals xs its ∧ IsTup s.heap a its.toArray ∧ xs.length ≤ sizeLine := by
  rcases h with h | ⟨o, its, n, hk, hc, hs, hz, r⟩
  · obtain ⟨z, its, r, p⟩ := h.ok I.hok
    exact ⟨its, r, p, z⟩
  · refine ⟨its.toList, r, ⟨o, I.kIn a o hk, hc, n, by simpa using hs⟩, ?_⟩
    have e := r.length
    simp only [Array.length_toList] at e
    omega
theorem Inv.list_inj (I : Inv X pins σ H s) (h : SqL X.K H a xs) (h' : SqL X.K H a ys) : xs = ys := by
  obtain ⟨its, r, ⟨o, n, e, _, _, d⟩, _⟩ := I.list h
  obtain ⟨its', r', ⟨o', n', e', _, _, d'⟩, _⟩ := I.list h'
  rw [e] at e'; cases e'
  rw [d] at d'
  injection d' with d1 _
  have : its = its' := by simpa using congrArg Array.toList d1
  subst this
  exact r.inj r'
end
abbrev Cx.wish (X : Cx) (E : Value → Shared → Prop) : Cx := { X with xe := E }
abbrev Cx.nox (X : Cx) : Cx := X.wish fun _ _ => False
theorem Cx.Ok.wish {X : Cx} (ok : X.Ok) (E : Value → Shared → Prop) : (X.wish E).Ok :=
  ⟨ok.mod, ok.kind, ok.glob, ok.blt, ok.above, ok.inj, ok.has, ok.cab, ok.hd, ok.frames, ok.stk, ok.exf, ok.bs, ok.bsz, ok.noex, ok.exfs, ok.funs, ok.frf⟩
theorem Cx.Ok.unwish {X : Cx} {E : Value → Shared → Prop} (ok : (X.wish E).Ok) : X.Ok :=
  ⟨ok.mod, ok.kind, ok.glob, ok.blt, ok.above, ok.inj, ok.has, ok.cab, ok.hd, ok.frames, ok.stk, ok.exf, ok.bs, ok.bsz, ok.noex, ok.exfs, ok.funs, ok.frf⟩
section
variable {X : Cx} {pins : List (Addr × Obj)} {σ : St} {H : Hp} {s : Shared} {E : Value → Shared → Prop}
theorem Inv.wish (I : Inv X pins σ H s) (E : Value → Shared → Prop) : Inv (X.wish E) pins σ H s := ⟨I.ok.wish E, I.os, I.bare, I.base, I.loc, I.cell, I.free, I.freeC, I.pin, I.hok, I.len⟩
theorem Inv.unwish (I : Inv (X.wish E) pins σ H s) : Inv X pins σ H s := ⟨I.ok.unwish, I.os, I.bare, I.base, I.loc, I.cell, I.free, I.freeC, I.pin, I.hok, I.len⟩
theorem SP.unwish {D : Ends} {f : Flow} {s' : Shared} (h : SP (X.wish E) pins D f s') : SP X pins D f s' := by
  cases f with
  | next => obtain ⟨σ', H', I, q⟩ := h; exact ⟨σ', H', I.unwish, q⟩
  | brk => obtain ⟨σ', H', I, q⟩ := h; exact ⟨σ', H', I.unwish, q⟩
  | cont => obtain ⟨σ', H', I, q⟩ := h; exact ⟨σ', H', I.unwish, q⟩
  | ret u => obtain ⟨v, σ', H', I, r, q⟩ := h; exact ⟨v, σ', H', I.unwish, r, q⟩
theorem PE.nox {e : Expr} {t : TE} (h : PE X.nox e t) : PE X e t := fun pins s σ H Q I hw =>
  wpAny_mono (h pins s σ H Q (I.wish _) hw) (fun _ _ ⟨v, H', I', r, q⟩ => ⟨v, H', I'.unwish, r, q⟩) fun _ _ z => False.elim z
theorem PT.nox {e : Expr} {t : TT} (h : PT X.nox e t) : PT X e t := fun pins s σ H Q I hw =>
  wpAny_mono (h pins s σ H Q (I.wish _) hw) (fun _ _ ⟨H', I', q⟩ => ⟨H', I'.unwish, q⟩) fun _ _ z => False.elim z
theorem PSs.nox {st : List Stmt} {t : TS} (h : PSs X.nox st t) : PSs X st t := fun pins s σ H D I hw =>
  wpAny_mono (h pins s σ H D (I.wish _) hw) (fun _ _ q => q.unwish) fun _ _ z => False.elim z
end
section
variable {X : Cx} {st : Stmt} {rest : List Stmt} {t u : TS} {e : Expr} {te : TE} {pos : Pos}
def tNext : TS := fun D σ H => D.nx σ H
def tSeq (t u : TS) : TS := fun D σ H => t { D with nx := u D } σ H
theorem pss_nil : PSs X [] tNext := fun _ _ σ H _ I h => wpAny_execs_nil ⟨σ, H, I, h⟩
theorem pss_cons (h1 : PS X st t) (h2 : PSs X rest u) : PSs X (st :: rest) (tSeq t u) := by
  intro pins s σ H D I h
  refine wpAny_execs_cons (thn (h1 pins s σ H { D with nx := u D } I h) fun f s1 q => ?_)
  cases f with
  | next =>
    obtain ⟨σ', H', I', q⟩ := q
    exact h2 pins s1 σ' H' D I' q
  | ret v => exact q
  | brk => exact q
  | cont => exact q
theorem pss_one (h1 : PS X st t) : PSs X [st] t := by
  intro pins s σ H D I h
  refine wpAny_execs_cons (thn (h1 pins s σ H D I h) fun f s1 q => ?_)
  cases f with
  | next => exact wpAny_execs_nil q
  | ret v => exact q
  | brk => exact q
  | cont => exact q
theorem Inv.quiet {pins : List (Addr × Obj)} {σ : St} {H : Hp} {s : Shared} (I : Inv X pins σ H s) : interactive X.env = false := by simp [interactive, I.ok.kind]
def tDrop (te : TE) : TS := fun D σ H => te σ H fun _ H1 => D.nx σ H1
theorem ps_expr (he : PE X e te) (hs : swapsWith e none pos.line X.env = pure false := by rfl) : PS X (.Expr e pos) (tDrop te) := by
  intro pins s σ H D I h
  exact wpAny_Expr_any (thn (he pins s σ H _ I h) fun v s1 ⟨x, H1, I1, r1, q1⟩ => ⟨σ, H1, I1, q1⟩) I.quiet hs
def tRet (te : TE) : TS := fun D σ H => te σ H D.rt
theorem ps_ret (he : PE X e te) : PS X (.Return (some e) pos) (tRet te) := by
  intro pins s σ H D I h
  exact wpAny_Return_some (thn (he pins s σ H _ I h) fun v s1 ⟨x, H1, I1, r1, q1⟩ => ⟨x, σ, H1, I1, r1, q1⟩)
def tRetN : TS := fun D _ H => D.rt .non H
def tIfS (c : TT) (t u : TS) : TS := fun D σ H => c σ H fun b H1 => if b = true then t D σ H1 else u D σ H1
theorem ps_if {c : Expr} {a b : List Stmt} {tc : TT} (hc : PT X c tc) (ha : PSs X a t) (hb : PSs X b u) : PS X (.If c a b pos) (tIfS tc t u) := by
  intro pins s σ H D I h
  refine wpAny_If (thn (hc pins s σ H _ I h) fun d s1 ⟨H1, I1, q1⟩ => ?_)
  cases d with
  | true => exact ha pins s1 σ H1 D I1 q1
  | false => exact hb pins s1 σ H1 D I1 q1
def tNever : TS := fun _ _ _ => False
end
abbrev TG := V → St → Hp → (St → Hp → Prop) → Prop
abbrev TGs := List V → St → Hp → (St → Hp → Prop) → Prop
def PG (X : Cx) (target : Expr) (t : TG) : Prop :=
  ∀ (pins : List (Addr × Obj)) (s : Shared) (σ : St) (H : Hp) (v : V) (u : Value) (Q : St → Hp → Prop), Inv X pins σ H s → RelV v u → t v σ H Q →
    wpAny (model X.prog X.w) X.A (assign target X.env u) (fun _ s' => ∃ σ' H', Inv X pins σ' H' s' ∧ Q σ' H') X.xe s
def PGs (X : Cx) (ts : List Expr) (t : TGs) : Prop :=
  ∀ (pins : List (Addr × Obj)) (s : Shared) (σ : St) (H : Hp) (vs : List V) (us : List Value) (Q : St → Hp → Prop), Inv X pins σ H s → Vals vs us → t vs σ H Q →
    wpAny (model X.prog X.w) X.A (assignInOrder ((assignEach ts X.env).map (·.2)) us) (fun _ s' => ∃ σ' H', Inv X pins σ' H' s' ∧ Q σ' H') X.xe s
abbrev TSet := V → V → V → Hp → (Hp → Prop) → Prop
def PSet (X : Cx) (t : TSet) : Prop :=
  ∀ (pins : List (Addr × Obj)) (s : Shared) (σ : St) (H : Hp) (o i v : V) (ov iv u : Value) (Q : Hp → Prop), Inv X pins σ H s → RelV o ov → RelV i iv → RelV v u → t o i v H Q →
    wpAny (model X.prog X.w) X.A (setItem ov iv u) (fun _ s' => ∃ H', Inv X pins σ H' s' ∧ Q H') X.xe s
section
variable {X : Cx} {pos : Pos}
def gName (i : Nat) : TG := fun v σ H Q => Q (σ.set i (some v)) H
theorem pg_name {i : Nat} {x : Str} (hN : X.N.Nodup) (hi : X.N[i]? = some x) (hx : Loc X.env.scope x) (hf : X.fn x = true ∨ X.env.scope.names.lookup x = some .local := by first | exact .inl rfl | exact .inr rfl | assumption) : PG X (.Name x pos) (gName i) := by
  intro pins s σ H v u Q I r h
  exact wpAny_assign_Name (store_ok I hN hi hx r (fun s' I' => ⟨_, H, I', h⟩) hf)
def gNil : TGs := fun vs σ H Q => vs = [] ∧ Q σ H
def gCons (t : TG) (u : TGs) : TGs := fun vs σ H Q => ∃ v r, vs = v :: r ∧ t v σ H fun σ' H' => u r σ' H' Q
theorem pgs_nil : PGs X [] gNil := by
  intro pins s σ H vs us Q I r h
  obtain ⟨e, h⟩ := h
  subst e
  cases r
  exact assignInOrder_nil ⟨σ, H, I, h⟩
theorem pgs_cons {e : Expr} {es : List Expr} {t : TG} {u : TGs} (h1 : PG X e t) (h2 : PGs X es u)
    (hs : (assignEach (e :: es) X.env).map (·.2) = assign e X.env :: (assignEach es X.env).map (·.2) := by rfl) : PGs X (e :: es) (gCons t u) := by
  intro pins s σ H vs us Q I r h
  obtain ⟨v, vr, e1, h⟩ := h
  subst e1
  cases r with
  | cons r rr =>
    rw [hs]
    refine assignInOrder_cons (thn (h1 pins s σ H _ _ _ I r h) fun _ s1 ⟨σ1, H1, I1, q1⟩ => ?_)
    exact h2 pins s1 σ1 H1 _ _ Q I1 rr q1
def gTup (K : PySem.W.Frag) (n : Nat) (t : TGs) : TG := fun v σ H Q => ∃ a xs, v = .ref a ∧ SqT K H a xs ∧ xs.length = n ∧ t xs σ H Q
theorem pg_tup {es : List Expr} {k : Nat} {t : TGs} {n : Nat} (hc : X.calm = true) (h : PGs X es t)
    (hn : (assignEach es X.env).length = n := by rfl) (hst : (assignEach es X.env).findIdx? (·.1) = none := by rfl) : PG X (.Tuple es k pos) (gTup X.K n t) := by
  intro pins s σ H v u Q I r hw
  obtain ⟨a, xs, e1, hq, hl, hw⟩ := hw
  subst e1
  cases r
  obtain ⟨its, rv, ht, hz⟩ := I.tuple hq
  refine assign_Tuple_tuple (I.ok.hd hc) ht (by simp [hn, ← hl, rv.length]) hst fun h' hx => ?_
  have I1 : Inv X pins σ H { s with heap := h' } := I.kept (t' := s.toks) fun b o e => hx b o (Nat.ne_of_lt (Heap.lt_size e)) e
  exact h pins _ σ H xs _ Q I1 (by simpa using rv) hw
def gSub (to ti : TE) (t : TSet) : TG := fun v σ H Q => to σ H fun o H1 => ti σ H1 fun i H2 => t o i v H2 fun H3 => Q σ H3
theorem pg_sub {o i : Expr} {to ti : TE} {t : TSet} (ho : PE X o to) (hi : PE X i ti) (hs : PSet X t)
    (ha : ∀ v, assign (.Subscript o i pos) X.env v = (do
      let ov ← holding [v] (eval o X.env)
      let iv ← holding [v, ov] (eval i X.env)
      standAt pos
      holding [v, ov, iv] (setItem ov iv v)
      release [v, ov, iv] []) := by intro _; rfl) : PG X (.Subscript o i pos) (gSub to ti t) := by
  intro pins s σ H v u Q I r h
  rw [ha]
  refine wpAny_bind (wpAny_holding (thn (ho pins s σ H _ I h) fun ov s1 ⟨x, H1, I1, r1, q1⟩ => ?_))
  refine wpAny_bind (wpAny_holding (thn (hi pins s1 σ H1 _ I1 q1) fun iv s2 ⟨y, H2, I2, r2, q2⟩ => ?_))
  refine wpAny_bind (wpAny_standAt (wpAny_bind (wpAny_holding (thn (hs pins s2 σ H2 x y v ov iv u _ I2 r1 r2 r q2) fun _ s3 ⟨H3, I3, q3⟩ => ?_))))
  exact wpAny_release ⟨σ, H3, I3, q3⟩
def tAsg (te : TE) (g : TG) : TS := fun D σ H => te σ H fun x H1 => g x σ H1 D.nx
theorem ps_asg {tg e : Expr} {te : TE} {g : TG} (he : PE X e te) (hg : PG X tg g) (hs : swapsWithSole [tg] e pos.line X.env = pure false := by rfl) (hw : swappedStores [tg] e X.env = pure none := by rfl)
    (h1 : (assignEach [tg] X.env).map (·.2) = [assign tg X.env] := by rfl) : PS X (.Assign [tg] e pos) (tAsg te g) := by
  intro pins s σ H D I h
  refine wpAny_Assign_stores (thn (he pins s σ H _ I h) fun v s1 ⟨x, H1, I1, r1, q1⟩ => ?_) hs hw
  rw [h1]
  exact thn (hg pins s1 σ H1 x v _ I1 r1 q1) fun _ s2 q => q
theorem ps_set {i : Nat} {x : Str} {e : Expr} {te : TE} {pos' : Pos} (hN : X.N.Nodup) (hi : X.N[i]? = some x) (hx : Loc X.env.scope x) (he : PE X e te) (hs : swapsWith e (some (.Name x pos')) pos.line X.env = pure false := by rfl) (hf : X.fn x = true ∨ X.env.scope.names.lookup x = some .local := by first | exact .inl rfl | exact .inr rfl | assumption) :
    PS X (.Assign [.Name x pos'] e pos) (tAsg te (gName i)) := by
  intro pins s σ H D I h
  refine wpAny_Assign_Name (thn (he pins s σ H _ I h) fun v s1 ⟨y, H1, I1, r1, q1⟩ => ?_) hs
  exact store_ok I1 hN hi hx r1 (fun s2 I2 => ⟨_, H1, I2, q1⟩) hf
def tPar (i j : Nat) (ta : TA) : TS := fun D σ H => ta σ H fun vs H1 => ∃ v w, vs = [v, w] ∧ D.nx ((σ.set i (some v)).set j (some w)) H1
end
section
variable {X : Cx} {pos : Pos}
def tWhile (c : TT) (tb : TS) : TS := fun D σ H => ∃ W : Nat → St → Hp → Prop, (∃ m, W m σ H) ∧ ∀ m σ H, W m σ H →
  c σ H fun b H1 => if b = true then ∃ N : St → Hp → Prop, (∀ σ' H', N σ' H' → ∃ m', m' < m ∧ W m' σ' H') ∧ tb { D with nx := N, ct := N, bk := D.nx } σ H1 else D.nx σ H1
theorem ps_while {c : Expr} {body : List Stmt} {tc : TT} {tb : TS} (hp : PassesOwn (model X.prog X.w) X.A X.env X.xe) (hc : PT X c tc) (hb : PSs X body tb) : PS X (.While c body [] pos) (tWhile tc tb) := by
  intro pins s σ H D I h
  obtain ⟨W, ⟨m0, w0⟩, turn⟩ := h
  refine wpAny_While (codeAny_whileLoop (fun n s' => ∃ σ' H', Inv X pins σ' H' s' ∧ W n σ' H') ?_ m0 ⟨σ, H, I, w0⟩)
  rintro n s1 ⟨σ1, H1, I1, w1⟩
  refine wpAny_passesOwn hp (thn (hc pins s1 σ1 H1 _ I1 (turn n σ1 H1 w1)) fun b s2 ⟨H2, I2, q2⟩ => ?_)
  cases b with
  | true =>
    obtain ⟨N, hN, q2⟩ := q2
    rw [if_pos rfl]
    refine wpAny_passesOwn hp (thn (hb pins s2 σ1 H2 _ I2 q2) fun f s3 q3 => ?_)
    cases f with
    | next =>
      obtain ⟨σ3, H3, I3, n3⟩ := q3
      obtain ⟨m', hm, w3⟩ := hN σ3 H3 n3
      exact ⟨m', hm, σ3, H3, I3, w3⟩
    | cont =>
      obtain ⟨σ3, H3, I3, n3⟩ := q3
      obtain ⟨m', hm, w3⟩ := hN σ3 H3 n3
      exact ⟨m', hm, σ3, H3, I3, w3⟩
    | brk => exact q3
    | ret v => exact q3
  | false =>
    rw [if_neg Bool.false_ne_true]
    exact wpAny_execs_nil ⟨σ1, H2, I2, q2⟩
end
structure It where
  go : Nat → Hp → Prop
  yld : Nat → Hp → V → Hp → Prop
  stop : Nat → Hp → Prop
def FpOk (X : Cx) (pins : List (Addr × Obj)) (H : Hp) (b : Addr) : Prop :=
  H b = none ∧ b ≠ X.env.locals ∧ b ∉ X.fs ∧ (b ∈ X.ex ∨ X.s₀.heap.objs.size ≤ b) ∧ (∀ x c, X.env.cells.lookup x = some c → c ≠ b) ∧ ∀ p ∈ X.pn ++ pins, p.1 ≠ b
theorem Inv.fpOk {X : Cx} {pins : List (Addr × Obj)} {σ : St} {H H' : Hp} {s : Shared} {b : Addr} (I : Inv X pins σ H s) (hb : s.heap.objs.size ≤ b) (hn : H' b = none) : FpOk X pins H' b := by
  refine ⟨hn, Nat.ne_of_gt (Nat.lt_of_lt_of_le I.lt hb), I.nofs hb, .inr (Nat.le_trans I.sz hb), fun x c e z => ?_, fun p hp z => ?_⟩
  · obtain ⟨v, q⟩ := I.cell x c e
    exact absurd (Nat.lt_of_lt_of_le q.lt (by rw [z]; exact hb)) (Nat.lt_irrefl _)
  · exact absurd (Nat.lt_of_lt_of_le (Heap.lt_size (I.pin p hp).1) (by rw [z]; exact hb)) (Nat.lt_irrefl _)
structure Turn (P : Program) (w : World) (K : PySem.W.Frag) (tg : Expr) (J : It) (fp : List Addr) (it : Addr) (tn : Nat → Heap → Prop) : Prop where
  mem : it ∈ fp
  obj : ∀ i h, tn i h → ∀ b ∈ fp, ∃ o, h.get? b = some o ∧ ∀ v, o.data ≠ .cell v
  keep : ∀ i h h', tn i h → (∀ b ∈ fp, ∀ o, h.get? b = some o → h'.get? b = some o) → tn i h'
  item : ∀ (X : Cx), X.prog = P → X.w = w → X.K = K → X.calm = true → ∀ (i : Nat) (pins : List (Addr × Obj)) (s : Shared) (σ : St) (H : Hp) (E : Value → Shared → Prop), Inv X pins σ H s → (∀ b ∈ fp, FpOk X pins H b) → tn i s.heap → J.go i H →
    wpAny (model P w) X.A (pyNext (.ref it)) (fun r s1 => ∃ u, r = some u ∧
      wpAny (model P w) X.A (letOwnedTupleGo tg (.ref it) u) (fun _ s2 => ∃ x H', Inv X pins σ H' s2 ∧ RelV x u ∧ J.yld i H x H' ∧ tn (i + 1) s2.heap ∧ ∀ b ∈ fp, H' b = none) E s1) E s
  done : ∀ (X : Cx), X.prog = P → X.w = w → X.K = K → X.calm = true → ∀ (i : Nat) (pins : List (Addr × Obj)) (s : Shared) (σ : St) (H : Hp) (E : Value → Shared → Prop), Inv X pins σ H s → (∀ b ∈ fp, FpOk X pins H b) → tn i s.heap → J.stop i H →
    wpAny (model P w) X.A (pyNext (.ref it)) (fun r s1 => r = none ∧ Inv X pins σ H s1) E s
  self : ∀ (A : Around) (i : Nat) (s : Shared) (Q : Value → Shared → Prop) (E : Value → Shared → Prop), tn i s.heap → Q (.ref it) s → wpAny (model P w) A (pyIter (.ref it)) Q E s
abbrev TI := St → Hp → (It → Hp → Prop) → Prop
def PIE (X : Cx) (pins : List (Addr × Obj)) (σ : St) (tg : Expr) (R : It → Hp → Prop) (itv : Value) (s2 : Shared) : Prop :=
  ∃ (it : Addr) (fp : List Addr) (tn : Nat → Heap → Prop) (J : It) (H' : Hp), itv = .ref it ∧ Inv X pins σ H' s2 ∧ Turn X.prog X.w X.K tg J fp it tn ∧ tn 0 s2.heap ∧ (∀ b ∈ fp, FpOk X pins H' b) ∧ R J H'
def PI (X : Cx) (tg iter : Expr) (wi : TI) : Prop :=
  ∀ (pins : List (Addr × Obj)) (s : Shared) (σ : St) (H : Hp) (R : It → Hp → Prop), Inv X pins σ H s → wi σ H R →
    wpAny (model X.prog X.w) X.A (eval iter X.env) (fun v s1 => wpAny (model X.prog X.w) X.A (pyIter v) (PIE X pins σ tg R) X.xe s1) X.xe s
theorem go_of {M : Model} {A : Around} {E : Value → Shared → Prop} {s : Shared} {tg : Expr} {it : Addr} {u : Value} {o : Obj} {n : String} {vs : Array Value} {Q : Unit → Shared → Prop} (ho : s.heap.get? it = some o) (hc : o.cls = .type n) (hd : o.data = .fields vs)
    (hn : ["enumerate", "zip", "dict_itemiterator", "dict_reverseitemiterator", "odict_iterator", "itertools.zip_longest", "itertools.pairwise"].contains n = false) (hQ : Q () s) : wpAny M A (letOwnedTupleGo tg (.ref it) u) Q E s := by
  unfold letOwnedTupleGo
  cases tg <;> first
    | exact wpAny_pure hQ
    | (cases u <;> first
        | exact wpAny_pure hQ
        | (refine wpAny_bind (wpAny_load ho ?_)
           rw [hc, hd]
           show wpAny M A (if (["enumerate", "zip", "dict_itemiterator", "dict_reverseitemiterator", "odict_iterator", "itertools.zip_longest", "itertools.pairwise"].contains n && vs[0]? == some (rawInt _)) = true then _ else _) Q E s
           rw [if_neg (by intro h; rw [hn, Bool.false_and] at h; cases h)]
           exact wpAny_pure hQ))
def Itl (K : PySem.W.Frag) (a : Addr) : It :=
  ⟨fun i H => ∃ xs x, SqL K H a xs ∧ xs[i]? = some x, fun i H x H' => H' = H ∧ ∀ xs, SqL K H a xs → xs[i]? = some x, fun i H => ∃ xs, SqL K H a xs ∧ xs.length ≤ i⟩
def Itt (K : PySem.W.Frag) (a : Addr) : It :=
  ⟨fun i H => ∃ xs x, SqT K H a xs ∧ xs[i]? = some x, fun i H x H' => H' = H ∧ ∀ xs, SqT K H a xs → xs[i]? = some x, fun i H => ∃ xs, SqT K H a xs ∧ xs.length ≤ i⟩
def Itr (lo : Int) (n : Nat) : It := ⟨fun i _ => i < n, fun i H x H' => H' = H ∧ x = .int (lo + i), fun i _ => n ≤ i⟩
theorem turn_list {P : Program} {w : World} {K : PySem.W.Frag} {tg : Expr} (a it : Addr) : Turn P w K tg (Itl K a) [it] it (fun i h => h.IsListIter it a i) where
  mem := by simp
  obj := fun i h st b hb => by
    have e : b = it := by simpa using hb
    subst e
    obtain ⟨o, e, c, d⟩ := st
    exact ⟨o, e, fun v z => by rw [d] at z; cases z⟩
  keep := fun i h h' st k => st.at fun o e => k it (by simp) o e
  item := by
    intro X hP hw hK hc i pins s σ H E I hf st hg
    subst hP hw hK
    obtain ⟨xs, x, hq, hx⟩ := hg
    obtain ⟨its, rv, p, hz⟩ := I.list hq
    obtain ⟨u, hu, ru⟩ := rv.get hx
    obtain ⟨f0, f1, f2, f3, f4, f5⟩ := hf it (by simp)
    refine wpAny_pyNext_list_item st p.isList (x := u) (by simpa using hu) fun h' st' sb => ?_
    have I1 : Inv X pins σ H { s with heap := h' } := I.turned (t' := s.toks) (fun b o hb e => (sb.2 b hb).trans e) f0 f1 f3 f4 f5
    obtain ⟨o, e, c, d⟩ := id st'
    exact ⟨u, rfl, go_of (s := { s with heap := h' }) e c d (by decide) ⟨x, H, I1, ru, ⟨rfl, fun ys hy => by rw [I.list_inj hy hq]; exact hx⟩, st', fun b hb => (hf b hb).1⟩⟩
  done := by
    intro X hP hw hK hc i pins s σ H E I hf st hg
    subst hP hw hK
    obtain ⟨xs, hq, hx⟩ := hg
    obtain ⟨its, rv, p, hz⟩ := I.list hq
    obtain ⟨f0, f1, f2, f3, f4, f5⟩ := hf it (by simp)
    have hl := rv.length
    exact wpAny_pyNext_list_end (I.ok.hd hc) st p.isList (by simp; omega) fun h' eb => ⟨rfl, I.turned (t' := s.toks) (fun b o hb e => eb b o hb e) f0 f1 f3 f4 f5⟩
  self := fun _ _ _ _ _ st h => wpAny_pyIter_listiter st h
theorem turn_range {P : Program} {w : World} {K : PySem.W.Frag} {tg : Expr} (it : Addr) (lo : Int) (n : Nat) : Turn P w K tg (Itr lo n) [it] it (fun i h => IsRangeIter h it (lo + (i : Nat) * 1) ((n : Int) - (i : Nat)) 1) where
  mem := by simp
  obj := fun i h st b hb => by
    have e : b = it := by simpa using hb
    subst e
    exact ⟨_, st, fun v z => by
      have z' : Data.fields _ = Data.cell v := z
      cases z'⟩
  keep := fun i h h' st k => k it (by simp) _ st
  item := by
    intro X hP hw hK hc i pins s σ H E I hf st hg
    subst hP hw hK
    obtain ⟨f0, f1, f2, f3, f4, f5⟩ := hf it (by simp)
    have W := Walks.range (prog := X.prog) (w := X.w) (I.ok.hd hc) it lo 1 n
    refine W.item i s _ _ hg st fun v h' tk hv st' kk => ?_
    obtain ⟨t, rfl⟩ := hv
    have I1 : Inv X pins σ H { s with heap := h', toks := tk } := I.turned (fun b o hb e => kk b o (by simpa using hb) e) f0 f1 f3 f4 f5
    refine ⟨_, rfl, go_of (s := { s with heap := h', toks := tk }) (n := "range_iterator") st' rfl rfl (by decide) ⟨.int (lo + i), H, I1, ⟨t, ?_⟩, ⟨rfl, rfl⟩, st', fun b hb => (hf b hb).1⟩⟩
    rw [Int.mul_one]
  done := by
    intro X hP hw hK hc i pins s σ H E I hf st hg
    subst hP hw hK
    obtain ⟨f0, f1, f2, f3, f4, f5⟩ := hf it (by simp)
    exact wpAny_pyNext_range_end (I.ok.hd hc) st (by have : n ≤ i := hg; omega) fun h' eb => ⟨rfl, I.turned (t' := s.toks) (fun b o hb e => eb b o hb e) f0 f1 f3 f4 f5⟩
  self := fun _ _ _ _ _ st h => wpAny_pyIter_rangeiter st h
end L2
namespace L2
open PySem PySem.Spec PyProof.Rows
section
variable {X : Cx} {tg : Expr}
def iList (K : PySem.W.Frag) (tl : TE) : TI := fun σ H R => tl σ H fun x H1 => ∃ a, x = .ref a ∧ (∃ xs, SqL K H1 a xs) ∧ R (Itl K a) H1
def iTup (K : PySem.W.Frag) (tl : TE) : TI := fun σ H R => tl σ H fun x H1 => ∃ a, x = .ref a ∧ (∃ xs, SqT K H1 a xs) ∧ R (Itt K a) H1
theorem pi_list {l : Expr} {tl : TE} (hl : PE X l tl) : PI X tg l (iList X.K tl) := by
  intro pins s σ H R I h
  refine thn (hl pins s σ H _ I h) fun v s1 ⟨x, H1, I1, r1, q1⟩ => ?_
  obtain ⟨a, e, ⟨xs, hq⟩, q⟩ := q1
  subst e
  cases r1
  obtain ⟨its, rv, p, hz⟩ := I1.list hq
  refine wpAny_pyIter_list p.isList ?_
  refine ⟨s1.heap.objs.size, [s1.heap.objs.size], _, _, H1, rfl, I1.kept (t' := s1.toks) fun b o e => Heap.get?_push_of_some _ e, turn_list a _, ⟨_, Heap.get?_push_size _ rfl, rfl, rfl⟩, fun b hb => ?_, q⟩
  have e : b = s1.heap.objs.size := by simpa using hb
  subst e
  exact I1.fpOk (Nat.le_refl _) (I1.hok.fresh (Nat.le_refl _))
theorem range_it {pins : List (Addr × Obj)} {σ : St} {H : Hp} {s : Shared} {R : It → Hp → Prop} {E : Value → Shared → Prop} {lo hi : Int} {t u v : Tok} {tk : Nat} (I : Inv X pins σ H s) (h1 : -(2 ^ 62) ≤ lo) (h2 : lo < 2 ^ 62) (h3 : -(2 ^ 62) ≤ hi) (h4 : hi < 2 ^ 62)
    (q : R (Itr lo (hi - lo).toNat) H) : wpAny (model X.prog X.w) X.A (pyIter (.ref s.heap.objs.size)) (PIE X pins σ tg R) E { s with heap := s.heap.push { cls := .type "range", data := .fields #[.int lo t, .int hi u, .int 1 v] }, toks := tk } := by
  refine wpAny_pyIter_range (IsRange.new ..) (small_one h1 h2 h3 h4) ?_
  have I1 : Inv X pins σ H { s with heap := s.heap.push { cls := .type "range", data := .fields #[.int lo t, .int hi u, .int 1 v] }, toks := tk } := I.kept fun b o e => Heap.get?_push_of_some _ e
  refine ⟨(s.heap.push { cls := .type "range", data := .fields #[.int lo t, .int hi u, .int 1 v] }).objs.size, [(s.heap.push { cls := .type "range", data := .fields #[.int lo t, .int hi u, .int 1 v] }).objs.size], _, _, H, rfl,
    I1.kept (t' := tk) fun b o e => Heap.get?_push_of_some _ e, turn_range _ lo (hi - lo).toNat, ?_, fun b hb => ?_, q⟩
  · have e1 : lo + ((0 : Nat) : Int) * 1 = lo := by simp
    have e2 : (((hi - lo).toNat : Nat) : Int) - ((0 : Nat) : Int) = Builtin.Range.rangeSize lo hi 1 := by rw [rangeSize_one]; split <;> omega
    show IsRangeIter _ _ (lo + ((0 : Nat) : Int) * 1) ((((hi - lo).toNat : Nat) : Int) - ((0 : Nat) : Int)) 1
    rw [e1, e2]
    exact Heap.get?_push_size _ rfl
  · have e : b = (s.heap.push { cls := .type "range", data := .fields #[.int lo t, .int hi u, .int 1 v] }).objs.size := by simpa using hb
    subst e
    exact I1.fpOk (Nat.le_refl _) (I1.hok.fresh (Nat.le_refl _))
def iRng1 (ta : TA) : TI := fun σ H R => ta σ H fun vs H1 => ∃ j : Int, vs = [.int j] ∧ -(2 ^ 62) ≤ j ∧ j < 2 ^ 62 ∧ R (Itr 0 j.toNat) H1
def iRng2 (ta : TA) : TI := fun σ H R => ta σ H fun vs H1 => ∃ i j : Int, vs = [.int i, .int j] ∧ (-(2 ^ 62) ≤ i ∧ i < 2 ^ 62 ∧ -(2 ^ 62) ≤ j ∧ j < 2 ^ 62) ∧ R (Itr i (j - i).toNat) H1
theorem pi_range1 {a : Expr} {ta : TA} {p pos : Pos} (hg : Gl X "range") (hm : X.mg "range" = none) (ha : PA X [a] ta) (hs : starEach [a] X.env = [(false, eval a X.env)] := by rfl) : PI X tg (.Call (.Name "range" p) [a] [] pos) (iRng1 ta) := by
  intro pins s σ H R I h
  refine Call_ (ld_blt I hg hm boot_range (PyProof.Rows.callWith_type1 (thn (ha pos pins s σ H _ I h) fun us s1 ⟨vs, H1, I1, r1, q1⟩ => ?_) hs rfl))
  obtain ⟨j, e, q1, q2, q⟩ := q1
  subst e
  cases r1 with
  | cons r rr =>
    cases rr
    obtain ⟨t, rfl⟩ := r
    exact call_range_1 (range_it I1 (by omega) (by omega) q1 q2 (by simpa using q))
theorem pi_range2 {a b : Expr} {ta : TA} {p pos : Pos} (hg : Gl X "range") (hm : X.mg "range" = none) (ha : PA X [a, b] ta) (hs : starEach [a, b] X.env = [(false, eval a X.env), (false, eval b X.env)] := by rfl) (hs2 : starEach [b] X.env = [(false, eval b X.env)] := by rfl) :
    PI X tg (.Call (.Name "range" p) [a, b] [] pos) (iRng2 ta) := by
  intro pins s σ H R I h
  refine Call_ (ld_blt I hg hm boot_range (PyProof.Rows.callWith_type1 (thn (ha pos pins s σ H _ I h) fun us s1 ⟨vs, H1, I1, r1, q1⟩ => ?_) (by rw [hs, hs2]) (by rw [hs2]; rfl)))
  obtain ⟨i, j, e, ⟨q1, q2, q3, q4⟩, q⟩ := q1
  subst e
  cases r1 with
  | cons r rr =>
    cases rr with
    | cons r' rr =>
      cases rr
      obtain ⟨t, rfl⟩ := r
      obtain ⟨t', rfl⟩ := r'
      exact call_range_2 (range_it I1 q1 q2 q3 q4 q)
def tFor (wi : TI) (g : TG) (tb : TS) : TS := fun D σ H => wi σ H fun J H1 => ∃ W : Nat → Nat → St → Hp → Prop, (∃ m, W 0 m σ H1) ∧ ∀ i m σ H, W i m σ H →
  (J.stop i H ∧ D.nx σ H) ∨ (J.go i H ∧ ∃ N : St → Hp → Prop, (∀ σ' H', N σ' H' → ∃ m', m' < m ∧ W (i + 1) m' σ' H') ∧ ∀ x H', J.yld i H x H' → g x σ H' fun σ2 H2 => tb { D with nx := N, ct := N, bk := D.nx } σ2 H2)
def pinsAt (fp : List Addr) (h : Heap) : List (Addr × Obj) := fp.filterMap fun b => (h.get? b).map fun o => (b, o)
theorem mem_pinsAt {fp : List Addr} {h : Heap} {b : Addr} {o : Obj} (hb : b ∈ fp) (e : h.get? b = some o) : (b, o) ∈ pinsAt fp h := List.mem_filterMap.mpr ⟨b, hb, by rw [e]; rfl⟩
theorem of_pinsAt {fp : List Addr} {h : Heap} {p : Addr × Obj} (hp : p ∈ pinsAt fp h) : p.1 ∈ fp ∧ h.get? p.1 = some p.2 := by
  obtain ⟨b, hb, e⟩ := List.mem_filterMap.mp hp
  cases q : h.get? b with
  | none => rw [q] at e; cases e
  | some o =>
    rw [q] at e
    have e' : (b, o) = p := Option.some.inj e
    subst e'
    exact ⟨hb, q⟩
theorem Inv.pinned {pins : List (Addr × Obj)} {σ : St} {H : Hp} {s : Shared} {fp : List Addr} (I : Inv X pins σ H s) (hf : ∀ b ∈ fp, FpOk X pins H b) (ho : ∀ b ∈ fp, ∃ o, s.heap.get? b = some o ∧ ∀ v, o.data ≠ .cell v) : Inv X (pins ++ pinsAt fp s.heap) σ H s :=
  I.pins_of fun p hp => (List.mem_append.mp hp).elim (fun z => I.pin p (List.mem_append_right _ z)) fun z => by
    obtain ⟨hb, e⟩ := of_pinsAt z
    obtain ⟨f0, f1, f2, _⟩ := hf p.1 hb
    obtain ⟨o, e', d⟩ := ho p.1 hb
    rw [e] at e'; cases e'
    exact ⟨e, f0, f1, f2, d⟩
theorem Inv.unpinned {pins pl : List (Addr × Obj)} {σ : St} {H : Hp} {s : Shared} (I : Inv X (pins ++ pl) σ H s) : Inv X pins σ H s := I.pins_of fun p hp => I.pin p (List.mem_append_right _ (List.mem_append_left _ hp))
theorem ps_for {iter : Expr} {body : List Stmt} {wi : TI} {g : TG} {tb : TS} {pos : Pos} (hp : PassesOwn (model X.prog X.w) X.A X.env X.xe) (hc : X.calm = true) (hi : PI X tg iter wi) (hg : PG X tg g) (hb : PSs X body tb)
    (hs : ∀ x, foldedSetIterable iter X.env x = pure x := by intro _; rfl) : PS X (.For tg iter body [] pos) (tFor wi g tb) := by
  intro pins s σ H D I h
  refine wpAny_For (thn (hi pins s σ H _ I h) fun v s1 h1 => thn h1 fun itv s2 h2 => ?_) hs
  obtain ⟨it, fp, tn, J, H2, e, I2, T, st2, f2, W, ⟨m0, w0⟩, turn⟩ := h2
  subst e
  -- what stays true of the iterator's objects through the loop
  have stat : ∀ {H' : Hp}, (∀ b ∈ fp, H' b = none) → ∀ b ∈ fp, FpOk X pins H' b := fun hn b hb => ⟨hn b hb, (f2 b hb).2⟩
  refine codeAny_forLoop_any (fun n s' => ∃ i σ' H', Inv X pins σ' H' s' ∧ tn i s'.heap ∧ (∀ b ∈ fp, H' b = none) ∧ W i n σ' H') ?_ m0 ⟨0, σ, H2, I2, st2, fun b hb => (f2 b hb).1, w0⟩
  rintro n s3 ⟨i, σ3, H3, I3, st3, fr3, w3⟩
  rcases turn i n σ3 H3 w3 with ⟨stop, qn⟩ | ⟨go, N, hN, step⟩
  · refine wpAny_passesOwn hp (thn (T.done X rfl rfl rfl hc i pins s3 σ3 H3 X.xe I3 (stat fr3) st3 stop) fun r s4 ⟨hr, I4⟩ => ?_)
    subst hr
    exact wpAny_execs_nil ⟨σ3, H3, I4, qn⟩
  · refine wpAny_passesOwn hp (thn (T.item X rfl rfl rfl hc i pins s3 σ3 H3 X.xe I3 (stat fr3) st3 go) fun r s4 ⟨u, hr, h4⟩ => ?_)
    subst hr
    refine wpAny_passesOwn hp (thn h4 fun _ s5 ⟨x, H5, I5, r5, y5, st5, fr5⟩ => ?_)
    have I5' := I5.pinned (stat fr5) (T.obj _ _ st5)
    refine wpAny_passesOwn hp (thn (hg _ s5 σ3 H5 x u _ I5' r5 (step x H5 y5)) fun _ s6 ⟨σ6, H6, I6, q6⟩ => ?_)
    refine wpAny_passesOwn hp (thn (hb _ s6 σ6 H6 _ I6 q6) fun f s7 q7 => ?_)
    have again : ∀ {σ7 : St} {H7 : Hp}, Inv X (pins ++ pinsAt fp s5.heap) σ7 H7 s7 → N σ7 H7 → ∃ m, m < n ∧ ∃ i σ' H', Inv X pins σ' H' s7 ∧ tn i s7.heap ∧ (∀ b ∈ fp, H' b = none) ∧ W i m σ' H' := fun {σ7 H7} I7 n7 => by
      obtain ⟨m', hm, w7⟩ := hN σ7 H7 n7
      refine ⟨m', hm, i + 1, σ7, H7, I7.unpinned, T.keep _ _ _ st5 fun b hb o e => (I7.pin (b, o) (List.mem_append_right _ (List.mem_append_right _ (mem_pinsAt hb e)))).1, fun b hb => ?_, w7⟩
      obtain ⟨o, e, d⟩ := T.obj _ _ st5 b hb
      exact (I7.pin (b, o) (List.mem_append_right _ (List.mem_append_right _ (mem_pinsAt hb e)))).2.1
    cases f with
    | next => obtain ⟨σ7, H7, I7, n7⟩ := q7; exact again I7 n7
    | cont => obtain ⟨σ7, H7, I7, n7⟩ := q7; exact again I7 n7
    | brk => obtain ⟨σ7, H7, I7, q7⟩ := q7; exact ⟨σ7, H7, I7.unpinned, q7⟩
    | ret v => obtain ⟨x7, σ7, H7, I7, r7, q7⟩ := q7; exact ⟨x7, σ7, H7, I7.unpinned, r7, q7⟩
end
theorem for_list {K : PySem.W.Frag} {a : Addr} {xs : List V} {g : TG} {tb : TS} {D : Ends} {σ : St} {H : Hp} (Pv : Nat → St → Hp → Prop) (h0 : Pv 0 σ H) (hl : ∀ i σ H, i ≤ xs.length → Pv i σ H → SqL K H a xs)
    (hs : ∀ i x σ H, xs[i]? = some x → Pv i σ H → g x σ H fun σ2 H2 => tb { D with nx := Pv (i + 1), ct := Pv (i + 1), bk := D.nx } σ2 H2) (hd : ∀ σ H, Pv xs.length σ H → D.nx σ H) :
    ∃ W : Nat → Nat → St → Hp → Prop, (∃ m, W 0 m σ H) ∧ ∀ i m σ H, W i m σ H →
      ((Itl K a).stop i H ∧ D.nx σ H) ∨ ((Itl K a).go i H ∧ ∃ N : St → Hp → Prop, (∀ σ' H', N σ' H' → ∃ m', m' < m ∧ W (i + 1) m' σ' H') ∧ ∀ x H', (Itl K a).yld i H x H' → g x σ H' fun σ2 H2 => tb { D with nx := N, ct := N, bk := D.nx } σ2 H2) := by
  refine ⟨fun i m σ H => m = xs.length - i ∧ i ≤ xs.length ∧ Pv i σ H, ⟨xs.length, by simp, Nat.zero_le _, h0⟩, ?_⟩
  rintro i m σ H ⟨rfl, hi, p⟩
  have q := hl i σ H hi p
  by_cases hlt : i < xs.length
  · refine .inr ⟨⟨xs, xs[i], q, by simp [hlt]⟩, Pv (i + 1), fun σ' H' p' => ⟨xs.length - (i + 1), by omega, rfl, hlt, p'⟩, fun x H' y => ?_⟩
    obtain ⟨e, y⟩ := y
    subst e
    exact hs i x σ _ (y xs q) p
  · have e : i = xs.length := by omega
    subst e
    exact .inl ⟨⟨xs, q, Nat.le_refl _⟩, hd σ H p⟩
theorem for_range {lo : Int} {n : Nat} {g : TG} {tb : TS} {D : Ends} {σ : St} {H : Hp} (Pv : Nat → St → Hp → Prop) (h0 : Pv 0 σ H)
    (hs : ∀ i σ H, i < n → Pv i σ H → g (.int (lo + i)) σ H fun σ2 H2 => tb { D with nx := Pv (i + 1), ct := Pv (i + 1), bk := D.nx } σ2 H2) (hd : ∀ σ H, Pv n σ H → D.nx σ H) :
    ∃ W : Nat → Nat → St → Hp → Prop, (∃ m, W 0 m σ H) ∧ ∀ i m σ H, W i m σ H →
      ((Itr lo n).stop i H ∧ D.nx σ H) ∨ ((Itr lo n).go i H ∧ ∃ N : St → Hp → Prop, (∀ σ' H', N σ' H' → ∃ m', m' < m ∧ W (i + 1) m' σ' H') ∧ ∀ x H', (Itr lo n).yld i H x H' → g x σ H' fun σ2 H2 => tb { D with nx := N, ct := N, bk := D.nx } σ2 H2) := by
  refine ⟨fun i m σ H => m = n - i ∧ i ≤ n ∧ Pv i σ H, ⟨n, by simp, Nat.zero_le _, h0⟩, ?_⟩
  rintro i m σ H ⟨rfl, hi, p⟩
  by_cases hlt : i < n
  · refine .inr ⟨hlt, Pv (i + 1), fun σ' H' p' => ⟨n - (i + 1), by omega, rfl, hlt, p'⟩, fun x H' y => ?_⟩
    obtain ⟨e, y⟩ := y
    subst e y
    exact hs i σ _ hlt p
  · have e : i = n := by omega
    subst e
    exact .inl ⟨Nat.le_refl _, hd σ H p⟩
end L2
namespace L2
open PySem PySem.Spec PyProof.Rows
abbrev R2 := V → V → Hp → VK → Prop
def OpR (X : Cx) (f : Value → Value → Sem Value) (r : R2) : Prop :=
  ∀ (pins : List (Addr × Obj)) (s : Shared) (σ : St) (H : Hp) (x y : V) (v u : Value) (Q : VK), Inv X pins σ H s → RelV x v → RelV y u → r x y H Q →
    wpAny (model X.prog X.w) X.A (f v u) (EP X pins σ Q) X.xe s
def UnR (X : Cx) (f : Value → Sem Value) (r : V → Hp → VK → Prop) : Prop :=
  ∀ (pins : List (Addr × Obj)) (s : Shared) (σ : St) (H : Hp) (x : V) (v : Value) (Q : VK), Inv X pins σ H s → RelV x v → r x H Q →
    wpAny (model X.prog X.w) X.A (f v) (EP X pins σ Q) X.xe s
def CallR (X : Cx) (f : Value) (r : List V → Hp → VK → Prop) : Prop :=
  ∀ (pins : List (Addr × Obj)) (s : Shared) (σ : St) (H : Hp) (xs : List V) (us : List Value) (Q : VK), Inv X pins σ H s → Vals xs us → r xs H Q →
    wpAny (model X.prog X.w) X.A (call f us) (EP X pins σ Q) X.xe s
def tOp (r : R2) (ta tb : TE) : TE := fun σ H Q => ta σ H fun x H1 => tb σ H1 fun y H2 => r x y H2 Q
def tUn (r : V → Hp → VK → Prop) (ta : TE) : TE := fun σ H Q => ta σ H fun x H1 => r x H1 Q
def rI (C : Int → Int → Prop) (g : Int → Int → V) : R2 := fun x y H Q => ∃ i j, x = .int i ∧ y = .int j ∧ C i j ∧ Q (g i j) H
def rI0 (g : Int → Int → V) : R2 := fun x y H Q => ∃ i j, x = .int i ∧ y = .int j ∧ Q (g i j) H
def rU (g : Int → V) : V → Hp → VK → Prop := fun x H Q => ∃ i, x = .int i ∧ Q (g i) H
section
variable {X : Cx} {a b c : Expr} {ta tb tc : TE} {pos : Pos}
theorem binT (ha : PE X a ta) (hb : PE X b tb) {pins : List (Addr × Obj)} {s : Shared} {σ : St} {H : Hp} {R : V → V → Hp → Prop} (I : Inv X pins σ H s)
    (h : ta σ H fun x H1 => tb σ H1 fun y H2 => R x y H2) {Q : Value → Shared → Prop} {f : Value → Value → Sem Value}
    (hf : ∀ v u s2 x y H2, Inv X pins σ H2 s2 → RelV x v → RelV y u → R x y H2 → wpAny (model X.prog X.w) X.A (f v u) Q X.xe s2) :
    wpAny (model X.prog X.w) X.A (eval a X.env) (fun v s₁ => wpAny (model X.prog X.w) X.A (eval b X.env) (fun u s₂ => wpAny (model X.prog X.w) X.A (f v u) Q X.xe s₂) X.xe s₁) X.xe s := by
  refine thn (ha pins s σ H _ I h) fun v s1 ⟨x, H1, I1, r1, q1⟩ => ?_
  refine thn (hb pins s1 σ H1 _ I1 q1) fun u s2 ⟨y, H2, I2, r2, q2⟩ => ?_
  exact hf v u s2 x y H2 I2 r1 r2 q2
theorem pe_op {op : Operator} {r : R2} (ho : OpR X (binaryOp op) r) (ha : PE X a ta) (hb : PE X b tb) : PE X (.BinOp a op b pos) (tOp r ta tb) := by
  intro pins s σ H Q I h
  exact wpAny_BinOp (binT ha hb I h fun v u s2 x y H2 I2 rx ry q => ho pins s2 σ H2 x y v u Q I2 rx ry q)
theorem pe_un {op : UnaryOp} {r : V → Hp → VK → Prop} (ho : UnR X (unaryOp op) r) (ha : PE X a ta) : PE X (.UnaryOp op a pos) (tUn r ta) := by
  intro pins s σ H Q I h
  exact UnaryOp_ (thn (ha pins s σ H _ I h) fun v s1 ⟨x, H1, I1, r1, q1⟩ => ho pins s1 σ H1 x v Q I1 r1 q1)
theorem opI {f : Value → Value → Sem Value} {C : Int → Int → Prop} {g : Int → Int → Int}
    (rule : ∀ (i j : Int) (t u : Tok) (s : Shared) (Q : Value → Shared → Prop) (E : Value → Shared → Prop), C i j → Q (.int (g i j) s.toks) { s with toks := s.toks + 1 } → wpAny (model X.prog X.w) X.A (f (.int i t) (.int j u)) Q E s) :
    OpR X f (rI C fun i j => .int (g i j)) := by
  intro pins s σ H x y v u Q I rx ry h
  obtain ⟨i, j, rfl, rfl, hc, q⟩ := h
  obtain ⟨t, rfl⟩ := rx
  obtain ⟨t', rfl⟩ := ry
  exact rule i j t t' s _ _ hc ⟨.int (g i j), H, I.tok _, ⟨_, rfl⟩, q⟩
theorem opI0 {f : Value → Value → Sem Value} {g : Int → Int → Int}
    (rule : ∀ (i j : Int) (t u : Tok) (s : Shared) (Q : Value → Shared → Prop) (E : Value → Shared → Prop), Q (.int (g i j) s.toks) { s with toks := s.toks + 1 } → wpAny (model X.prog X.w) X.A (f (.int i t) (.int j u)) Q E s) :
    OpR X f (rI0 fun i j => .int (g i j)) := by
  intro pins s σ H x y v u Q I rx ry h
  obtain ⟨i, j, rfl, rfl, q⟩ := h
  obtain ⟨t, rfl⟩ := rx
  obtain ⟨t', rfl⟩ := ry
  exact rule i j t t' s _ _ ⟨.int (g i j), H, I.tok _, ⟨_, rfl⟩, q⟩
theorem opB0 {f : Value → Value → Sem Value} {g : Int → Int → Bool}
    (rule : ∀ (i j : Int) (t u : Tok) (s : Shared) (Q : Value → Shared → Prop) (E : Value → Shared → Prop), Q (.bool (g i j)) s → wpAny (model X.prog X.w) X.A (f (.int i t) (.int j u)) Q E s) :
    OpR X f (rI0 fun i j => .bl (g i j)) := by
  intro pins s σ H x y v u Q I rx ry h
  obtain ⟨i, j, rfl, rfl, q⟩ := h
  obtain ⟨t, rfl⟩ := rx
  obtain ⟨t', rfl⟩ := ry
  exact rule i j t t' s _ _ ⟨.bl (g i j), H, I, rfl, q⟩
def CPow (i j : Int) : Prop := 0 ≤ j ∧ j ≤ 1000000 ∧ i.natAbs < 2 ^ 64
def CMul (i j : Int) : Prop := (-(2 ^ 64) < i ∧ i < 2 ^ 64) ∨ (-(2 ^ 64) < j ∧ j < 2 ^ 64)
theorem CMul.ok {i j : Int} (h : CMul i j) : IntMulOk i j := by
  rcases h with ⟨h1, h2⟩ | ⟨h1, h2⟩
  · exact .of_left (intBits_le_64 h1 h2)
  · exact .of_right (intBits_le_64 h1 h2)
theorem two_pow_nn (k : Nat) : (0 : Int) ≤ 2 ^ k := by
  rw [two_pow_cast]
  exact Int.natCast_nonneg _
theorem op_add : OpR X (binaryOp .Add) (rI0 fun i j => .int (i + j)) := opI0 fun _ _ _ _ _ _ _ q => add_int q
theorem op_sub : OpR X (binaryOp .Sub) (rI0 fun i j => .int (i - j)) := opI0 fun _ _ _ _ _ _ _ q => sub_int q
theorem op_mul : OpR X (binaryOp .Mult) (rI CMul fun i j => .int (i * j)) := opI fun _ _ _ _ _ _ _ hc q => mul_int q hc.ok
theorem op_mod : OpR X (binaryOp .Mod) (rI (fun _ j => 0 < j) fun i j => .int (i % j)) := opI fun i j _ _ _ _ _ hc q => by
  have h1 : (0 : Int) < j := hc
  exact mod_int' (by omega) (by rw [Int.fmod_eq_emod_of_nonneg i (by omega)]; exact q)
theorem op_pow : OpR X (binaryOp .Pow) (rI CPow fun i j => .int (i ^ j.toNat)) := opI fun _ _ _ _ _ _ _ hc q => pow_int_small hc.1 hc.2.1 hc.2.2 q
theorem op_shl : OpR X (binaryOp .LShift) (rI CPow fun i j => .int (i * 2 ^ j.toNat)) := opI fun _ _ _ _ _ _ _ hc q => lshift_int_small hc.1 hc.2.1 hc.2.2 q
theorem op_shr : OpR X (binaryOp .RShift) (rI (fun _ j => 0 ≤ j) fun i j => .int (i / 2 ^ j.toNat)) := opI fun i j _ _ _ _ _ hc q =>
  rshift_int hc (by rw [Int.fdiv_eq_ediv_of_nonneg i (two_pow_nn _)]; exact q)
theorem op_and : OpR X (binaryOp .BitAnd) (rI0 fun i j => .int (Builtin.bitAnd i j)) := opI0 fun _ _ _ _ _ _ _ q => and_int q
theorem op_or : OpR X (binaryOp .BitOr) (rI0 fun i j => .int (Builtin.bitOr i j)) := opI0 fun _ _ _ _ _ _ _ q => or_int q
theorem unI {f : Value → Sem Value} {g : Int → Int}
    (rule : ∀ (i : Int) (t : Tok) (s : Shared) (Q : Value → Shared → Prop) (E : Value → Shared → Prop), Q (.int (g i) s.toks) { s with toks := s.toks + 1 } → wpAny (model X.prog X.w) X.A (f (.int i t)) Q E s) :
    UnR X f (rU fun i => .int (g i)) := by
  intro pins s σ H x v Q I rx h
  obtain ⟨i, rfl, q⟩ := h
  obtain ⟨t, rfl⟩ := rx
  exact rule i t s _ _ ⟨.int (g i), H, I.tok _, ⟨_, rfl⟩, q⟩
theorem un_neg : UnR X (unaryOp .USub) (rU fun i => .int (-i)) := unI fun _ _ _ _ _ q => neg_int q
theorem un_inv : UnR X (unaryOp .Invert) (rU fun i => .int (Builtin.bitNot i)) := unI fun _ _ _ _ _ q => invert_int q
end
def scal : V → V → Bool
  | .non, .non => true | .non, .int _ => true | .int _, .non => true | .non, .bl _ => true | .bl _, .non => true | .non, .str _ => true | .str _, .non => true
  | .int _, .int _ => true | .bl _, .bl _ => true | .str _, .str _ => true | .byt _, .byt _ => true
  | .int _, .str _ => true | .str _, .int _ => true | .bl _, .str _ => true | .str _, .bl _ => true
  | _, _ => false
def rEq : R2 := fun x y H Q => scal x y = true ∧ Q (.bl (decide (x = y))) H
def rNe : R2 := fun x y H Q => scal x y = true ∧ Q (.bl (!decide (x = y))) H
theorem dec_int {i j : Int} : decide (V.int i = V.int j) = (i == j) := by
  rw [Bool.eq_iff_iff]
  simp
theorem dec_bl {i j : Bool} : decide (V.bl i = V.bl j) = (i == j) := by
  rw [Bool.eq_iff_iff]
  simp
theorem dec_str {i j : Str} : decide (V.str i = V.str j) = (i == j) := by
  rw [Bool.eq_iff_iff]
  simp
theorem dec_byt {i j : Array UInt8} : decide (V.byt i = V.byt j) = (i.toList == j.toList) := by
  rw [Bool.eq_iff_iff]
  cases i
  cases j
  simp
section
variable {X : Cx} {a b c : Expr} {ta tb tc : TE} {pos : Pos}
theorem fin_bl {pins : List (Addr × Obj)} {σ : St} {H : Hp} {s : Shared} {Q : VK} {k k' : Bool} (I : Inv X pins σ H s) (q : Q (.bl k) H) (e : k = k') : EP X pins σ Q (.bool k') s := by
  subst e
  exact ⟨.bl k, H, I, rfl, q⟩
theorem op_eq : OpR X (compareOp .Eq) rEq := by
  intro pins s σ H x y v u Q I rx ry h
  obtain ⟨hs, q⟩ := h
  cases x with
  | non =>
    cases rx
    cases y with
    | non => cases ry; exact PySem.EqNone.eq_none_none (fin_bl I q (by simp))
    | bl j => cases ry; exact PySem.EqNone.eq_none_bool (fin_bl I q (by simp))
    | int j => obtain ⟨t', rfl⟩ := ry; exact PySem.EqNone.eq_none_int (fin_bl I q (by simp))
    | str j => obtain ⟨t', rfl⟩ := ry; exact PySem.EqNone.eq_none_str (fin_bl I q (by simp))
    | _ => exact absurd (show false = true from hs) Bool.false_ne_true
  | bl i =>
    cases rx
    cases y with
    | non => cases ry; exact PySem.EqNone.eq_bool_none (fin_bl I q (by simp))
    | bl j => cases ry; exact eq_bool (fin_bl I q dec_bl)
    | str j => obtain ⟨t', rfl⟩ := ry; exact PySem.EqMixed.eq_bool_str (fin_bl I q (by simp))
    | _ => exact absurd (show false = true from hs) Bool.false_ne_true
  | int i =>
    obtain ⟨t, rfl⟩ := rx
    cases y with
    | non => cases ry; exact PySem.EqNone.eq_int_none (fin_bl I q (by simp))
    | int j => obtain ⟨t', rfl⟩ := ry; exact eq_int (fin_bl I q dec_int)
    | str j => obtain ⟨t', rfl⟩ := ry; exact PySem.EqMixed.eq_int_str (fin_bl I q (by simp))
    | _ => exact absurd (show false = true from hs) Bool.false_ne_true
  | str i =>
    obtain ⟨t, rfl⟩ := rx
    cases y with
    | non => cases ry; exact PySem.EqNone.eq_str_none (fin_bl I q (by simp))
    | bl j => cases ry; exact PySem.EqMixed.eq_str_bool (fin_bl I q (by simp))
    | int j => obtain ⟨t', rfl⟩ := ry; exact PySem.EqMixed.eq_str_int (fin_bl I q (by simp))
    | str j => obtain ⟨t', rfl⟩ := ry; exact eq_str (fin_bl I q dec_str)
    | _ => exact absurd (show false = true from hs) Bool.false_ne_true
  | byt i =>
    obtain ⟨t, rfl⟩ := rx
    cases y with
    | byt j => obtain ⟨t', rfl⟩ := ry; exact PySem.W.eq_bytes (fin_bl I q dec_byt)
    | _ => exact absurd (show false = true from hs) Bool.false_ne_true
  | _ => cases y <;> exact absurd (show false = true from hs) Bool.false_ne_true
theorem op_ne : OpR X (compareOp .NotEq) rNe := by
  intro pins s σ H x y v u Q I rx ry h
  obtain ⟨hs, q⟩ := h
  cases x with
  | non =>
    cases rx
    cases y with
    | non => cases ry; exact PySem.EqNone.ne_none_none (fin_bl I q (by simp))
    | bl j => cases ry; exact PySem.EqNone.ne_none_bool (fin_bl I q (by simp))
    | int j => obtain ⟨t', rfl⟩ := ry; exact PySem.EqNone.ne_none_int (fin_bl I q (by simp))
    | str j => obtain ⟨t', rfl⟩ := ry; exact PySem.EqNone.ne_none_str (fin_bl I q (by simp))
    | _ => exact absurd (show false = true from hs) Bool.false_ne_true
  | bl i =>
    cases rx
    cases y with
    | non => cases ry; exact PySem.EqNone.ne_bool_none (fin_bl I q (by simp))
    | bl j => cases ry; exact ne_bool (fin_bl I q (congrArg not dec_bl))
    | str j => obtain ⟨t', rfl⟩ := ry; exact PySem.EqMixed.ne_bool_str (fin_bl I q (by simp))
    | _ => exact absurd (show false = true from hs) Bool.false_ne_true
  | int i =>
    obtain ⟨t, rfl⟩ := rx
    cases y with
    | non => cases ry; exact PySem.EqNone.ne_int_none (fin_bl I q (by simp))
    | int j => obtain ⟨t', rfl⟩ := ry; exact ne_int (fin_bl I q (congrArg not dec_int))
    | str j => obtain ⟨t', rfl⟩ := ry; exact PySem.EqMixed.ne_int_str (fin_bl I q (by simp))
    | _ => exact absurd (show false = true from hs) Bool.false_ne_true
  | str i =>
    obtain ⟨t, rfl⟩ := rx
    cases y with
    | non => cases ry; exact PySem.EqNone.ne_str_none (fin_bl I q (by simp))
    | bl j => cases ry; exact PySem.EqMixed.ne_str_bool (fin_bl I q (by simp))
    | int j => obtain ⟨t', rfl⟩ := ry; exact PySem.EqMixed.ne_str_int (fin_bl I q (by simp))
    | str j => obtain ⟨t', rfl⟩ := ry; exact ne_str (fin_bl I q (congrArg not dec_str))
    | _ => exact absurd (show false = true from hs) Bool.false_ne_true
  | byt i =>
    obtain ⟨t, rfl⟩ := rx
    cases y with
    | byt j => obtain ⟨t', rfl⟩ := ry; exact PySem.W.ne_bytes (fin_bl I q (congrArg not dec_byt))
    | _ => exact absurd (show false = true from hs) Bool.false_ne_true
  | _ => cases y <;> exact absurd (show false = true from hs) Bool.false_ne_true
theorem op_lt : OpR X (compareOp .Lt) (rI0 fun i j => .bl (decide (i < j))) := opB0 fun _ _ _ _ _ _ _ q => lt_int q
theorem op_gt : OpR X (compareOp .Gt) (rI0 fun i j => .bl (decide (j < i))) := opB0 fun _ _ _ _ _ _ _ q => gt_int q
theorem op_ge : OpR X (compareOp .GtE) (rI0 fun i j => .bl (decide (j ≤ i))) := opB0 fun _ _ _ _ _ _ _ q => ge_int q
theorem OpR.or {f : Value → Value → Sem Value} {r r' : R2} (h : OpR X f r) (h' : OpR X f r') : OpR X f (fun x y H Q => r x y H Q ∨ r' x y H Q) := by
  intro pins s σ H x y v u Q I rx ry q
  rcases q with q | q
  · exact h pins s σ H x y v u Q I rx ry q
  · exact h' pins s σ H x y v u Q I rx ry q
theorem nomark (b : Expr) {op : CmpOp} (h : op ≠ .In := by decide) (h2 : op ≠ .NotIn := by decide) : behindInMarks op b = false := by
  have e1 : (op == CmpOp.In) = false := by cases op <;> first | rfl | exact absurd rfl h
  have e2 : (op == CmpOp.NotIn) = false := by cases op <;> first | rfl | exact absurd rfl h2
  cases b <;> simp [behindInMarks, e1, e2]
theorem pe_cmpR {op : CmpOp} {r : R2} (ho : OpR X (compareOp op) r) (ha : PE X a ta) (hb : PE X b tb) (hm : behindInMarks op b = false) : PE X (.Compare a [op] [b] pos) (tOp r ta tb) := by
  intro pins s σ H Q I h
  exact wpAny_Compare1 (binT ha hb I h fun v u s2 x y H2 I2 rx ry q => ho pins s2 σ H2 x y v u Q I2 rx ry q) hm
def tTest (t : TE) : TT := fun σ H Q => t σ H fun x H' => ∃ k, x = .bl k ∧ Q k H'
theorem pt_cmpR {op : CmpOp} {r : R2} (ho : OpR X (compareOp op) r) (ha : PE X a ta) (hb : PE X b tb) (hm : behindInMarks op b = false) : PT X (.Compare a [op] [b] pos) (tTest (tOp r ta tb)) := by
  intro pins s σ H Q I h
  refine wpAny_isTrue_Compare1 (thn (ha pins s σ H _ I h) fun v s1 ⟨x, H1, I1, r1, q1⟩ => thn (hb pins s1 σ H1 _ I1 q1) fun u s2 ⟨y, H2, I2, r2, q2⟩ =>
    thn (ho pins s2 σ H2 x y v u _ I2 r1 r2 q2) fun c s3 ⟨z, H3, I3, r3, k, e, q3⟩ => ?_) hm
  subst e
  cases r3
  exact wpAny_truthy_bool ⟨H3, I3, q3⟩
def tChain (r r' : R2) (ta tb tc : TE) : TE := fun σ H Q => ta σ H fun x H1 => tb σ H1 fun y H2 => r x y H2 fun z H3 => ∃ k, z = .bl k ∧
  (if k = true then tc σ H3 fun w' H4 => r' y w' H4 Q else Q (.bl false) H3)
theorem line63 : (sizeLine : Nat) < 2 ^ 63 := by rw [sizeLine_eq]; decide
theorem vals1 {x : V} {us : List Value} (r : Vals [x] us) : ∃ u, us = [u] ∧ RelV x u := by
  cases r with
  | cons r1 r2 => cases r2; exact ⟨_, rfl, r1⟩
theorem vals2 {x y : V} {us : List Value} (r : Vals [x, y] us) : ∃ u w', us = [u, w'] ∧ RelV x u ∧ RelV y w' := by
  cases r with
  | cons r1 r2 =>
    cases r2 with
    | cons r3 r4 => cases r4; exact ⟨_, _, rfl, r1, r3⟩
theorem call_int1 : CallR X (.type "int") (fun xs H Q => (∃ i, xs = [.int i] ∧ Q (.int i) H) ∨ ∃ k, xs = [.bl k] ∧ Q (.int (if k then 1 else 0)) H) := by
  intro pins s σ H xs us Q I r h
  rcases h with ⟨i, rfl, q⟩ | ⟨k, rfl, q⟩
  · obtain ⟨u, rfl, t, rfl⟩ := vals1 r
    exact call_int_int ⟨.int i, H, I, ⟨_, rfl⟩, q⟩
  · obtain ⟨u, rfl, r1⟩ := vals1 r
    cases r1
    exact call_int_bool ⟨.int (if k then 1 else 0), H, I.tok _, ⟨_, rfl⟩, q⟩
end
end L2
namespace L2
open PySem PySem.Spec PyProof.Rows
structure ObjM (h : Heap) (x dx C : Addr) (mA : Str → Option Value) : Prop where
  obj : h.get? x = some (PySem.W.instObj C dx)
  ns : h.Ns1 dx mA
  ne : dx ≠ x
theorem lookIn_ns {h : Heap} {dx : Addr} {mA : Str → Option Value} (n : h.Ns1 dx mA) : ∃ od, h.get? dx = some od ∧ ∀ name, PySem.W.lookIn name od = some (mA name) := by
  obtain ⟨o, es, ep, ho, hd, hk, _, hm⟩ := n
  refine ⟨o, ho, fun name => ?_⟩
  have e := hm name
  unfold nsFind findBy at e
  rw [← Array.find?_toList] at e
  unfold PySem.W.lookIn
  rw [hd]
  dsimp only
  split
  · rename_i y q
    rw [q] at e
    exact congrArg some e
  · rename_i q
    rw [q] at e
    have a : es.toList.any (·.refKey) = false := by
      rw [List.any_eq_false]
      intro y hy
      obtain ⟨z, t, hkey⟩ := hk y (Array.mem_toList_iff.mp hy)
      simp [DictEntry.refKey, hkey]
    have a' : ¬ es.toList.any (·.refKey) = true := by rw [a]; exact Bool.false_ne_true
    rw [if_neg a']
    exact congrArg some e
theorem ObjM.look {h : Heap} {x dx C : Addr} {mA : Str → Option Value} (I : ObjM h x dx C mA) : ∃ od, PySem.W.InstAt h x (PySem.W.instObj C dx) C (some od) ∧ ∀ name, PySem.W.lookIn name od = some (mA name) :=
  let ⟨od, ho, hl⟩ := lookIn_ns I.ns
  ⟨od, ⟨I.obj, rfl, rfl, ho⟩, hl⟩
section
variable {prog : Program} {w : World} {A : Around} {E : Value → Shared → Prop} {s : Shared} {K : PySem.W.Frag} {x dx C f : Addr} {mA : Str → Option Value} {name : Str} {v : Value}
end
theorem RelO.none_of {o : Option Value} (r : RelO none o) : o = none := by
  cases o with
  | none => rfl
  | some u => exact (show False from r).elim
section
variable {P : Program} {w : World} {H H' : Hp} {h h' : Heap} {a C dx : Addr} {fs fs' : List (Str × V)}
end
structure Cls (K : PySem.W.Frag) (C : Addr) : Prop where
  pg : PySem.W.plainGet K C Str.empty = true
  hd : PySem.W.hasDictIn K C = true
  po : PySem.W.plainOver K C = true
  sa : PySem.W.findIn K (.ref C) "__setattr__" = some (some (.builtin "object.__setattr__"))
theorem Cls.get {K : PySem.W.Frag} {C : Addr} (c : Cls K C) (f : Str) : PySem.W.plainGet K C f = true := c.pg
structure Con (K : PySem.W.Frag) (C : Addr) (f : Str) (v : V) (u : Value) : Prop where
  at_ : PySem.W.findIn K (.ref C) f = some (some u)
  rel : RelV v u
  get : PySem.W.specialIn K u "__get__" = some none
  cp : PySem.W.copiedNames.contains f = false
structure Meth (K : PySem.W.Frag) (C : Addr) (m : Str) (f : Addr) : Prop where
  at_ : PySem.W.findIn K (.ref C) m = some (some (.ref f))
  fn : PySem.W.isFn K (.ref f) = true
  kp : PySem.W.keepIn K (.ref f) = true
section
variable {X : Cx} {pins : List (Addr × Obj)} {σ : St} {H : Hp} {s : Shared} {a C dx : Addr} {fs : List (Str × V)} {f : Str} {v : V} {A : Around} {E : Value → Shared → Prop}
theorem Inv.made (I : Inv X pins σ H s) : Inv X pins σ (upd (upd H s.heap.objs.size (.own (s.heap.objs.size + 1))) (s.heap.objs.size + 1) (.ins C s.heap.objs.size []))
    { s with heap := (s.heap.push PySem.W.emptyDict).push (PySem.W.instObj C s.heap.objs.size) } := by
  have e1 : (s.heap.push PySem.W.emptyDict).get? s.heap.objs.size = some PySem.W.emptyDict := Heap.get?_push_size s.heap rfl
  have e2 : ((s.heap.push PySem.W.emptyDict).push (PySem.W.instObj C s.heap.objs.size)).get? (s.heap.objs.size + 1) = some (PySem.W.instObj C s.heap.objs.size) := by
    have := Heap.get?_push_size (s.heap.push PySem.W.emptyDict) (o := PySem.W.instObj C s.heap.objs.size) rfl
    rwa [Heap.size_push] at this
  have e3 : (s.heap.push PySem.W.emptyDict).Ns s.heap.objs.size (fun _ => none) := ⟨PySem.W.emptyDict, #[], _, e1, rfl, (fun e he => absurd he (by simp)), fun _ => rfl⟩
  have I1 := I.laid (a := s.heap.objs.size) (o := .own (s.heap.objs.size + 1)) (h' := s.heap.push PySem.W.emptyDict) (t' := s.toks) (fun b u q => Heap.get?_push_of_some _ q) (Nat.le_refl _) ⟨_, e1⟩
  refine I1.laid (a := s.heap.objs.size + 1) (o := .ins C s.heap.objs.size []) (t' := s.toks) (fun b u q => Heap.get?_push_of_some _ q) (Nat.le_of_eq (Heap.size_push _ _)) ?_
  have ne : s.heap.objs.size ≠ s.heap.objs.size + 1 := Nat.ne_of_lt (Nat.lt_succ_self _)
  refine ⟨by rw [upd_ne ne, upd_same], Nat.zero_le _, ne, e2, fun _ => none, (Heap.Ns1.of_empty e3).at fun o q => Heap.get?_push_of_some _ q, fun _ => True.intro, fun y hy => absurd rfl hy⟩
end
section
variable {X : Cx} {o e value : Expr} {f : Str} {pos pos' tpos : Pos} {ta tv : TE}
end
section
variable {X : Cx} {pins : List (Addr × Obj)} {σ : St} {H : Hp} {s : Shared} {A : Around} {E : Value → Shared → Prop} {Q : Value → Shared → Prop} {c : Value} {b : Bool}
inductive TyOf (K : PySem.W.Frag) (H : Hp) : V → Value → Prop where
  | non : TyOf K H .non (.type "NoneType")
  | bl (x : Bool) : TyOf K H (.bl x) (.type "bool")
  | int (i : Int) : TyOf K H (.int i) (.type "int")
  | str (x : Str) : TyOf K H (.str x) (.type "str")
  | flt (x : UInt64) : TyOf K H (.flt x) (.type "float")
  | lst {a : Addr} {xs : List V} (e : H a = some (.lst xs)) : TyOf K H (.ref a) (.type "list")
  | frz {a : Addr} {o : Obj} {xs : List V} (e : H a = some (.frz o (.lst xs))) : TyOf K H (.ref a) (.type "list")
  | tup {a : Addr} {xs : List V} (e : H a = some (.tup xs)) : TyOf K H (.ref a) (.type "tuple")
  | dK {a : Addr} {kvs : List (Key × V)} (e : H a = some (.dK kvs)) : TyOf K H (.ref a) (.type "dict")
  | dT {a : Addr} {kvs : List (List Key × V)} (e : H a = some (.dT kvs)) : TyOf K H (.ref a) (.type "dict")
  | ins {a C dx : Addr} {fs : List (Str × V)} (e : H a = some (.ins C dx fs)) (cl : Cls K C) (ha : PySem.W.findIn K (.ref C) "__class__" = some (some (.builtin "object.__class__")))
      (hn : PySem.W.specialIn K (.builtin "object.__class__") "__get__" = some (some (.builtin "getset_descriptor.__get__"))) (htk : PySem.W.takesIn K (.builtin "object.__class__") = some true)
      (hm : PySem.W.mroIn K C (.type "object") = some true) : TyOf K H (.ref a) (.ref C)
end
end L2
namespace L2
open PySem PySem.Spec PyProof.Rows
structure Room (k : Nat) (A : Around) : Prop where
  hd : A.handled = none
  dp : A.depth + 3 * k + 5 < recursionLimit
  un : A.units + 16 * k + 200 < cLine
theorem Room.mono {j k : Nat} {A : Around} (r : Room k A) (h : j ≤ k) : Room j A := ⟨r.hd, by have := r.dp; omega, by have := r.un; omega⟩
theorem Room.deeper {k : Nat} {A : Around} (r : Room (k + 1) A) (env : Env) : Room k (A.deeper env) :=
  ⟨r.hd, by have := r.dp; show A.depth + 1 + 3 * k + 5 < _; omega, by have := r.un; show A.units + 3 + 16 * k + 200 < _; omega⟩
theorem Room.in1 {k : Nat} {A : Around} (r : Room (k + 1) A) : Room k A.in1 :=
  ⟨r.hd, by have := r.dp; show A.depth + 3 * k + 5 < _; omega, by have := r.un; show A.units + 1 + 16 * k + 200 < _; omega⟩
theorem Room.depth {k : Nat} {A : Around} (r : Room k A) : A.depth < recursionLimit := by have := r.dp; omega
theorem Room.units {k : Nat} {A : Around} (r : Room k A) : A.units + 64 < cLine := by have := r.un; omega
theorem Room.units0 {k : Nat} {A : Around} (r : Room k A) : A.units < cLine := by have := r.un; omega
def tNil : TA := fun _ H Q => Q [] H
def tCons (ta : TE) (tr : TA) : TA := fun σ H Q => ta σ H fun x H1 => tr σ H1 fun xs H2 => Q (x :: xs) H2
section
variable {X : Cx} {e : Expr} {es : List Expr} {te : TE} {t : TA} {pos : Pos}
theorem pa_nil : PA X [] tNil := fun _ _ _ _ H Q I h => Calls.spliced_nil ⟨[], H, I, .nil, h⟩
theorem pa_cons (ha : PE X e te) (hr : PA X es t) (hs : starEach (e :: es) X.env = (false, eval e X.env) :: starEach es X.env := by rfl) : PA X (e :: es) (tCons te t) := by
  intro pos pins s σ H Q I h
  rw [hs]
  show wpAny _ _ (spliced ((false, eval e X.env) :: backTo pos (starEach es X.env))) _ _ s
  refine Calls.spliced_cons (thn (ha pins s σ H _ I h) fun u s1 ⟨x, H1, I1, r1, q1⟩ => ?_)
  exact thn (hr pos pins s1 σ H1 _ I1 q1) fun us s2 ⟨xs, H2, I2, r2, q2⟩ => ⟨x :: xs, H2, I2, .cons r1 r2, q2⟩
def tTup (t : TA) : TE := fun σ H Q => t σ H fun xs H1 => xs.length ≤ sizeLine ∧ ∀ p, H1 p = none → Q (.ref p) (upd H1 p (.tup xs))
def tLst (t : TA) : TE := fun σ H Q => t σ H fun xs H1 => xs.length ≤ sizeLine ∧ ∀ p, H1 p = none → Q (.ref p) (upd H1 p (.lst xs))
theorem pe_tup {x1} (h : PA X es t) : PE X (.Tuple es x1 pos) (tTup t) := by
  intro pins s σ H Q I hq
  refine wpAny_Tuple_spliced (thn (h pos pins s σ H _ I hq) fun us s1 ⟨xs, H1, I1, r, z, q⟩ => ⟨by rw [← r.length]; exact z, ?_⟩)
  have hf : H1 s1.heap.objs.size = none := I1.hok.fresh (Nat.le_refl _)
  refine ⟨.ref s1.heap.objs.size, upd H1 s1.heap.objs.size (.tup xs), I1.laid (t' := s1.toks) (fun b u e => Heap.get?_push_of_some _ e) (Nat.le_refl _) ?_, rfl, q _ hf⟩
  exact ⟨z, us, r, ⟨_, Heap.get?_push_size _ rfl, rfl, _, rfl⟩⟩
theorem pe_lst (h : PA X es t) : PE X (.List es pos) (tLst t) := by
  intro pins s σ H Q I hq
  refine wpAny_List_spliced (thn (h pos pins s σ H _ I hq) fun us s1 ⟨xs, H1, I1, r, z, q⟩ => ⟨by rw [← r.length]; exact z, ?_⟩)
  have hf : H1 s1.heap.objs.size = none := I1.hok.fresh (Nat.le_refl _)
  refine ⟨.ref s1.heap.objs.size, upd H1 s1.heap.objs.size (.lst xs), I1.laid (t' := s1.toks) (fun b u e => Heap.get?_push_of_some _ e) (Nat.le_refl _) ?_, rfl, q _ hf⟩
  exact ⟨z, us, 0, r, Heap.get?_push_size _ rfl⟩
end
abbrev Sp := List V → Hp → VK → XK → Prop
abbrev CXT := List Env → Hp → Shared → XK → Value → Shared → Prop
structure Env0 (P : Program) (w : World) (K : PySem.W.Frag) (mg : Str → Option Value) (base : Heap) (A : Around) (outer : List Env) (s : Shared) (H : Hp) : Prop where
  frames : A.frames = some outer
  mod : Mod K mg base
  bs : ∀ b o, base.get? b = some o → s.heap.get? b = some o ∧ H b = none
  bsz : base.objs.size ≤ s.heap.objs.size
  funs : s.heap.FunFrames base outer
  frf : ∀ b ∈ frs outer, H b = none
  hok : HOk P w H s.heap
  bare : AllBare s.gens
def CE (outer : List Env) (P : Program) (w : World) (H : Hp) (s : Shared) (Q : VK) (u : Value) (s' : Shared) : Prop :=
  ∃ v H', s'.os = s.os ∧ AllBare s'.gens ∧ Un (frs outer) [] H H' s.heap s'.heap ∧ HOk P w H' s'.heap ∧ RelV v u ∧ Q v H'
def CR (CX : CXT) (outer : List Env) (P : Program) (w : World) (H : Hp) (s : Shared) (Q : VK) (E : XK) (r : Result) (s' : Shared) : Prop :=
  match r with
  | .ok (.ret u) => CE outer P w H s Q u s'
  | .ok _ => False
  | .error e => CX outer H s E e s'
structure FnOk (P : Program) (w : World) (K : PySem.W.Frag) (mg : Str → Option Value) (base : Heap) (CX : CXT) (k : Nat) (f : Addr) (fd : FuncData) (ps : List Str) (sp : Sp) : Prop where
  len : ∀ vs H Q E, sp vs H Q E → vs.length = ps.length
  run : ∀ (A : Around) (outer : List Env) (s : Shared) (H : Hp) (args : Args) (us : List Value) (vs : List V) (Q : VK) (E : XK), Room k A → Env0 P w K mg base A outer s H → BindsTo s fd args (ps.zip us) → Vals vs us → sp vs H Q E →
    codeAny (model P w) A (.call (.ref f) args) (CR CX outer P w H s Q E) s
theorem FnOk.mono {P : Program} {w : World} {K : PySem.W.Frag} {mg : Str → Option Value} {base : Heap} {CX : CXT} {j k : Nat} {f : Addr} {fd : FuncData} {ps : List Str} {sp : Sp} (F : FnOk P w K mg base CX j f fd ps sp) (h : j ≤ k) :
    FnOk P w K mg base CX k f fd ps sp := ⟨F.len, fun A outer s H args us vs Q E hr => F.run A outer s H args us vs Q E (hr.mono h)⟩
theorem FnOk.imp {P : Program} {w : World} {K : PySem.W.Frag} {mg : Str → Option Value} {base : Heap} {CX : CXT} {k : Nat} {f : Addr} {fd : FuncData} {ps : List Str} {sp sp' : Sp} (F : FnOk P w K mg base CX k f fd ps sp)
    (h : ∀ vs H Q E, sp' vs H Q E → sp vs H Q E) : FnOk P w K mg base CX k f fd ps sp' :=
  ⟨fun vs H Q E q => F.len vs H Q E (h _ _ _ _ q), fun A outer s H args us vs Q E hr he hb hv hs => F.run A outer s H args us vs Q E hr he hb hv (h _ _ _ _ hs)⟩
theorem Env0.in1 {P : Program} {w : World} {K : PySem.W.Frag} {mg : Str → Option Value} {base : Heap} {A : Around} {outer : List Env} {s : Shared} {H : Hp} (e : Env0 P w K mg base A outer s H) :
    Env0 P w K mg base A.in1 outer s H := ⟨e.frames, e.mod, e.bs, e.bsz, e.funs, e.frf, e.hok, e.bare⟩
section
variable {X : Cx} {pins : List (Addr × Obj)} {σ : St} {H : Hp} {s s' : Shared}
theorem Inv.env0 (I : Inv X pins σ H s) : Env0 X.prog X.w X.K X.mg X.base X.A X.stack s H :=
  ⟨I.ok.frames, I.ok.mod, I.bs, Nat.le_trans I.ok.bsz I.sz, I.stack, I.stkFree, I.hok, I.bare⟩
theorem Inv.after {Q : VK} {u : Value} (I : Inv X pins σ H s) (h : CE X.stack X.prog X.w H s Q u s') : EP X pins σ Q u s' := by
  obtain ⟨v, H', os, bare, un, hok, r, q⟩ := h
  obtain ⟨hh, g, d, t, os'⟩ := s'
  obtain rfl : os' = s.os := os
  exact ⟨v, H', I.call (h' := hh) (g' := g) (d' := d) (t' := t) (ch := []) un hok bare (fun b z => absurd z (by simp)), r, q⟩
end
def tCall (sp : Sp) (dvs : List V) (E : XK) (t : TA) : TE := fun σ H Q => t σ H fun vs H1 => sp (vs ++ dvs) H1 Q E
def Binds (K : PySem.W.Frag) (fd : FuncData) (ps : List Str) (ds : List Value) : Prop :=
  ∀ (s : Shared) (us : List Value), K.In s.heap → (us ++ ds).length = ps.length → BindsTo s fd ⟨us, []⟩ (ps.zip (us ++ ds))
theorem Binds.all {K : PySem.W.Frag} {fd : FuncData} {ps : List Str} (h : ∀ us : List Value, us.length = ps.length → bindArgs fd ⟨us, []⟩ = pure (ps.zip us)) : Binds K fd ps [] := fun s us _ hl => by
  rw [List.append_nil] at hl ⊢
  exact .of_eq (h us hl)
def Passes (CX : CXT) (X : Cx) (E : XK) : Prop := ∀ (pins : List (Addr × Obj)) (σ : St) (H : Hp) (s : Shared) (e : Value) (s' : Shared), Inv X pins σ H s → CX X.stack H s E e s' → X.xe e s'
section
variable {X : Cx} {CX : CXT} {k : Nat} {f C : Addr} {fd : FuncData} {ps : List Str} {sp : Sp} {dvs : List V} {ds : List Value} {E : XK} {x m : Str} {p pos apos : Pos} {e o : Expr} {es : List Expr} {ta : TE} {t : TA}
theorem run_fn {pins : List (Addr × Obj)} {σ : St} {H : Hp} {s : Shared} {Q : VK} {us : List Value} {vs : List V} (F : FnOk X.prog X.w X.K X.mg X.base CX k f fd ps sp) (hr : Room k X.A) (hb : Binds X.K fd ps ds) (hd : Vals dvs ds) (hx : Passes CX X E)
    (I : Inv X pins σ H s) (r : Vals vs us) (h : sp (vs ++ dvs) H Q E) : wpAny (model X.prog X.w) X.A (call (.ref f) us) (EP X pins σ Q) X.xe s := by
  have r2 : Vals (vs ++ dvs) (us ++ ds) := r.append hd
  have hl : (us ++ ds).length = ps.length := by rw [← r2.length]; exact F.len _ _ _ _ h
  refine wpAny_call (codeAny_mono (F.run X.A X.stack s H ⟨us, []⟩ (us ++ ds) (vs ++ dvs) Q E hr I.env0 (hb s us I.kIn hl) r2 h) fun r s' hq => ?_)
  cases r with
  | error e => exact hx pins σ H s e s' I hq
  | ok fl =>
    cases fl with
    | ret u => exact I.after hq
    | next => exact False.elim hq
    | brk => exact False.elim hq
    | cont => exact False.elim hq
theorem pe_call (F : FnOk X.prog X.w X.K X.mg X.base CX k f fd ps sp) (hr : Room k X.A) (hg : Gl X x) (hm : X.mg x = some (.ref f)) (hk : PySem.W.keepIn X.K (.ref f) = true) (hb : Binds X.K fd ps ds) (hd : Vals dvs ds) (hx : Passes CX X E)
    (ha : PA X (e :: es) t) (hdb : (x == ("__debug__" : Str)) = false := by decide) (he : starEach (e :: es) X.env = (false, eval e X.env) :: starEach es X.env := by rfl) (hpl : (backTo pos (starEach es X.env)).any (·.1) = false := by rfl) :
    PE X (.Call (.Name x p) (e :: es) [] pos) (tCall sp dvs E t) := by
  intro pins s σ H Q I h
  refine wpAny_Call_Name_kw (ld_glob I hg hm ?_ hdb)
  refine PySem.W.callWith_K (h₀ := X.base) I.ok.mod.kin hk (thn (ha pos pins s σ H _ I h) fun us s1 ⟨vs, H1, I1, r, q⟩ => ⟨I1.kIn, ?_⟩) he hpl
  exact run_fn F hr hb hd hx I1 r q
structure Mk (K : PySem.W.Frag) (C f : Addr) : Prop where
  makes : PySem.W.makesIn K C = true
  init : PySem.W.findIn K (.ref C) "__init__" = some (some (.ref f))
  fn : PySem.W.isFn K (.ref f) = true
  kp : PySem.W.keepIn K (.ref C) = true
end
def PK (X : Cx) (kws : List Keyword) (t : TA) : Prop :=
  ∀ (pos : Pos) (pins : List (Addr × Obj)) (s : Shared) (σ : St) (H : Hp) (Q : List V → Hp → Prop), Inv X pins σ H s → t σ H Q → wpAny (model X.prog X.w) X.A (evalAll ((backToKw pos (keywordEach kws X.env)).map (·.2))) (AP X pins σ Q) X.xe s
section
variable {X : Cx} {CX : CXT} {k : Nat} {f C : Addr} {fd : FuncData} {ps ks : List Str} {sp : Sp} {E : XK} {x m : Str} {p pos apos kpos : Pos} {e o : Expr} {es : List Expr} {kws : List Keyword} {te ta : TE} {t tk : TA} {nm : Option Str}
theorem pk_nil : PK X [] tNil := fun _ _ _ _ H Q I h => wpAny_evalAll_nil ⟨[], H, I, .nil, h⟩
theorem pk_cons (ha : PE X e te) (hr : PK X kws t) : PK X (⟨nm, e, kpos⟩ :: kws) (tCons te t) := by
  intro pos pins s σ H Q I h
  show wpAny _ _ (evalAll ((do let v ← eval e X.env; standAt pos; pure v) :: (backToKw pos (keywordEach kws X.env)).map (·.2))) _ _ s
  refine wpAny_evalAll_cons (wpAny_bind (thn (ha pins s σ H _ I h) fun u s1 ⟨x, H1, I1, r1, q1⟩ => wpAny_bind (wpAny_standAt (wpAny_pure ?_))))
  exact thn (hr pos pins s1 σ H1 _ I1 q1) fun us s2 ⟨xs, H2, I2, r2, q2⟩ => ⟨x :: xs, H2, I2, .cons r1 r2, q2⟩
structure KBinds (K : PySem.W.Frag) (fd : FuncData) (ps ks : List Str) (g : List Value → List Value → List Value) (gV : List V → List V → List V) : Prop where
  to : ∀ (s : Shared) (us ws : List Value), K.In s.heap → (g us ws).length = ps.length → BindsTo s fd ⟨us, ks.zip ws⟩ (ps.zip (g us ws))
  rel : ∀ {vs : List V} {us : List Value} {zs : List V} {ws : List Value}, Vals vs us → Vals zs ws → Vals (gV vs zs) (g us ws)
variable {g : List Value → List Value → List Value} {gV : List V → List V → List V}
end
structure FnScope (N P : List Str) (sc : Scope) : Prop where
  kind : sc.kind = .function
  co : sc.isCoroutine = false
  gen : sc.isGenerator = false
  nd : N.Nodup
  pre : N.take P.length = P
  par : ∀ x ∈ P, sc.names.lookup x = some .local ∨ sc.names.lookup x = some .cell
  nofree : ∀ y ∈ sc.names, y.2 ≠ .free
theorem bindL_out {kindOf : Str → Option NameKind} {x : Str} : ∀ {binds : List (Str × Value)} {m : Str → Option Value}, (∀ v, (x, v) ∉ binds) → bindL kindOf binds m x = m x
  | [], _, _ => rfl
  | (n, v) :: r, m, h => by
    unfold bindL
    rw [bindL_out fun w hw => h w (List.mem_cons_of_mem _ hw)]
    split
    · have : x ≠ n := by rintro rfl; exact h v List.mem_cons_self
      simp [this]
    · rfl
theorem bindC_out {kindOf : Str → Option NameKind} {x : Str} : ∀ {binds : List (Str × Value)} {m : Str → Option Value}, (∀ v, (x, v) ∉ binds) → bindC kindOf binds m x = m x
  | [], _, _ => rfl
  | (n, v) :: r, m, h => by
    unfold bindC
    rw [bindC_out fun w hw => h w (List.mem_cons_of_mem _ hw)]
    split
    · rfl
    · have : x ≠ n := by rintro rfl; exact h v List.mem_cons_self
      simp [this]
theorem bindL_get {kindOf : Str → Option NameKind} {x : Str} {v : Value} : ∀ {P : List Str} {vs : List Value} {i : Nat} {m : Str → Option Value}, P.Nodup → P[i]? = some x → vs[i]? = some v → kindOf x = some .local →
    bindL kindOf (P.zip vs) m x = some v
  | [], _, _, _, _, h, _, _ => by simp at h
  | _ :: _, [], _, _, _, _, h, _ => by simp at h
  | p :: P, w :: vs, 0, m, nd, h1, h2, hk => by
    simp at h1 h2; subst h1; subst h2
    show bindL kindOf ((p, w) :: P.zip vs) m p = _
    unfold bindL
    rw [bindL_out fun v hv => (List.nodup_cons.mp nd).1 (List.of_mem_zip hv).1, if_pos hk]
    simp
  | p :: P, w :: vs, i + 1, m, nd, h1, h2, hk => by
    show bindL kindOf ((p, w) :: P.zip vs) m x = _
    unfold bindL
    exact bindL_get (i := i) (List.nodup_cons.mp nd).2 (by simpa using h1) (by simpa using h2) hk
theorem bindC_get {kindOf : Str → Option NameKind} {x : Str} {v : Value} : ∀ {P : List Str} {vs : List Value} {i : Nat} {m : Str → Option Value}, P.Nodup → P[i]? = some x → vs[i]? = some v → kindOf x ≠ some .local →
    bindC kindOf (P.zip vs) m x = some v
  | [], _, _, _, _, h, _, _ => by simp at h
  | _ :: _, [], _, _, _, _, h, _ => by simp at h
  | p :: P, w :: vs, 0, m, nd, h1, h2, hk => by
    simp at h1 h2; subst h1; subst h2
    show bindC kindOf ((p, w) :: P.zip vs) m p = _
    unfold bindC
    rw [bindC_out fun v hv => (List.nodup_cons.mp nd).1 (List.of_mem_zip hv).1, if_neg hk]
    simp
  | p :: P, w :: vs, i + 1, m, nd, h1, h2, hk => by
    show bindC kindOf ((p, w) :: P.zip vs) m x = _
    unfold bindC
    exact bindC_get (i := i) (List.nodup_cons.mp nd).2 (by simpa using h1) (by simpa using h2) hk
def start (N : List Str) (vs : List V) : St := vs.map some ++ List.replicate (N.length - vs.length) none
def cxOf (CX : CXT) (P : Program) (w : World) (K : PySem.W.Frag) (mg : Str → Option Value) (base : Heap) (N : List Str) (qual : Str) (scope : Scope) (f : Addr) (cd : Value) (A : Around) (outer : List Env) (s : Shared) (H : Hp) (E : XK) : Cx where
  prog := P
  w := w
  K := K
  mg := mg
  base := base
  A := A.deeper (envOfC qual scope s.heap.objs.size f cd)
  N := N
  s₀ := s
  H₀ := H
  env := envOfC qual scope s.heap.objs.size f cd
  outer := outer
  stack := envOfC qual scope s.heap.objs.size f cd :: outer
  ex := []
  calm := true
  fn := fun _ => true
  pn := []
  xe := fun e s' => wpAny (model P w) (A.deeper (envOfC qual scope s.heap.objs.size f cd)) (leaving (envOfC qual scope s.heap.objs.size f cd) e) (fun _ s'' => CX outer H s E e s'') (fun e' s'' => CX outer H s E e' s'') s'
theorem cell_has {sc : Scope} {n : Nat} {x : Str} (h : sc.names.lookup x = some .cell) : ∃ c, (cellsFrom n sc.names []).lookup x = some c := by
  have q := PySem.W.cellsFrom_some sc.names n [] (.inl h)
  exact Option.isSome_iff_exists.mp q
theorem inv_start {CX : CXT} {P : Program} {w : World} {K : PySem.W.Frag} {mg : Str → Option Value} {base : Heap} {N ps : List Str} {qual : Str} {scope : Scope} {f : Addr} {cd : Value} {A : Around} {outer : List Env} {s s1 : Shared} {H : Hp} {E : XK} {us : List Value} {vs : List V}
    (S : FnScope N ps scope) (hd : A.handled = none) (e0 : Env0 P w K mg base A outer s H) (hl : vs.length = ps.length) (r : Vals vs us)
    (x : InCallC s s.heap.objs.size (bindL (envOfC qual scope s.heap.objs.size f cd).kindOf (ps.zip us) fun _ => none) (cellsFrom (s.heap.objs.size + 1) scope.names []) (bindC (envOfC qual scope s.heap.objs.size f cd).kindOf (ps.zip us) fun _ => none) s1) :
    Inv (cxOf CX P w K mg base N qual scope f cd A outer s H E) [] (start N vs) H s1 := by
  have hpl : ps.length ≤ N.length := by have := congrArg List.length S.pre; rw [List.length_take] at this; omega
  obtain ⟨h1, tk, rfl, hk⟩ := x.done
  have noA : ∀ b : Addr, b ∉ (cxOf CX P w K mg base N qual scope f cd A outer s H E).ex := fun b z => absurd (show b ∈ ([] : List Addr) from z) (by simp)
  refine ⟨⟨e0.mod, S.kind, rfl, rfl, Nat.le_refl _, fun y z c h1 h2 => ?_, fun y hy => ?_, fun y c _ h => ?_, fun _ => hd, Around.frames_deeper e0.frames, .inr ⟨rfl, rfl⟩, fun b z => absurd z (noA b), e0.bs, e0.bsz, fun b _ _ => noA b, fun b z => absurd z (noA b), e0.funs, e0.frf⟩,
    rfl, e0.bare, Un.kept hk, ⟨_, x.toInCall.ns, fun i y v h1 h2 h3 => ?_⟩, fun y c h => ⟨_, x.cell y c h⟩, e0.hok.fresh (Nat.le_refl _), fun y c h => ?_, fun p hp => absurd (show p ∈ ([] : List (Addr × Obj)) from hp) (by simp), e0.hok.kept hk, ?_⟩
  · exact name_of_addr x.apart (PySem.mem_of_lookup h1) (PySem.mem_of_lookup h2)
  · have hy : scope.names.lookup y = some .cell ∨ scope.names.lookup y = some .free := hy
    rcases hy with hy | hy
    · exact cell_has hy
    · exact absurd rfl (S.nofree _ (PySem.mem_of_lookup hy))
  · exact Nat.le_of_lt (x.above y c (PySem.mem_of_lookup h))
  · have hi : i < vs.length := by
      unfold start at h2
      by_cases hi : i < vs.length
      · exact hi
      · rw [List.getElem?_append_right (by simpa using hi)] at h2
        rw [List.getElem?_replicate] at h2
        split at h2 <;> cases h2
    have ha : vs[i]? = some v := by
      unfold start at h2
      rw [List.getElem?_append_left (by simpa using hi), List.getElem?_map] at h2
      cases e : vs[i]? with
      | none => rw [e] at h2; cases h2
      | some a => rw [e] at h2; cases h2; rfl
    obtain ⟨u, hu, rv⟩ := r.get ha
    have hp : ps[i]? = some y := by
      rw [← S.pre, List.getElem?_take_of_lt (by omega)]; exact h1
    have ndP : ps.Nodup := by rw [← S.pre]; exact S.nd.sublist (List.take_sublist _ _)
    refine ⟨u, rv, ?_⟩
    rcases S.par y (List.mem_of_getElem? hp) with k | k
    · exact .inl ⟨k, bindL_get ndP hp hu k⟩
    · obtain ⟨c, e⟩ := cell_has (n := s.heap.objs.size + 1) k
      refine .inr ⟨.inl k, c, e, ?_⟩
      have q := x.cell y c e
      rw [bindC_get ndP hp hu (by show scope.names.lookup y ≠ _; rw [k]; decide)] at q
      exact q
  · exact e0.hok.fresh (Nat.le_of_lt (x.above y c (PySem.mem_of_lookup h)))
  · unfold start
    show _ = N.length
    rw [List.length_append, List.length_map, List.length_replicate]
    omega
theorem fn_of {CX : CXT} {P : Program} {w : World} {K : PySem.W.Frag} {mg : Str → Option Value} {base : Heap} {k : Nat} {f : Addr} {name qual : Str} {params : Arguments} {body : List Stmt} {scope : Scope} {dV kV doc pm cdv ct oc : Value} {an od : Option Addr}
    {osl : Array (Option Value)} {N ps : List Str} {sp : Sp} (lk : K.lookup f = some ⟨oc, od, .func (PySem.W.fnOf name qual params body scope dV kV doc pm an cdv ct), osl⟩) (hcd : PySem.W.codeIn K cdv qual = true) (S : FnScope N ps scope)
    (len : ∀ vs H Q E, sp vs H Q E → vs.length = ps.length)
    (hbody : ∀ (A : Around) (outer : List Env) (s : Shared) (H : Hp) (vs : List V) (Q : VK) (E : XK), Room k (A.deeper (envOfC qual scope s.heap.objs.size f cdv)) → sp vs H Q E →
      ∃ t, PSs (cxOf CX P w K mg base N qual scope f cdv A outer s H E) body t ∧ t { nx := fun _ H' => Q .non H', rt := Q } (start N vs) H) :
    FnOk P w K mg base CX (k + 1) f (PySem.W.fnOf name qual params body scope dV kV doc pm an cdv ct) ps sp := by
  refine ⟨len, fun A outer s H args us vs Q E hr e0 hb r hsp => ?_⟩
  have hl := len _ _ _ _ hsp
  have KX : K.In s.heap := e0.mod.kin.keeps fun b o e => (e0.bs b o e).1
  have lim : s.heap.NoLimit := e0.mod.nolimit.keeps fun b o e => (e0.bs b o e).1
  have hkind : ∀ y ∈ ps.zip us, scope.names.lookup y.1 = some .local ∨ (scope.names.lookup y.1 = some .cell ∧ ((cellsFrom (s.heap.objs.size + 1) scope.names []).lookup y.1).isSome = true) := fun ⟨n, v⟩ hy => by
    rcases S.par n (List.of_mem_zip hy).1 with q | q
    · exact .inl q
    · exact .inr ⟨q, PySem.W.cellsFrom_some _ _ _ (.inl q)⟩
  refine codeAny_call_function hr.depth (KX _ _ lk) rfl S.co S.gen rfl (PySem.W.codeRec_of KX hcd) (hb _ _ _ _ ?_)
  refine wpAny_newFunctionEnv_cells S.kind hkind fun env he s1 x => ?_
  subst he
  refine ⟨lim.keeps x.toInCall.keep, codeAny_func ?_⟩
  obtain ⟨t, ht, hq⟩ := hbody A outer s H vs Q E (hr.deeper _) hsp
  have I : Inv (cxOf CX P w K mg base N qual scope f cdv A outer s H E) [] (start N vs) H s1 := inv_start S hr.hd e0 hl r x
  refine wpAny_mono (ht [] s1 (start N vs) H _ I hq) (fun fl s' hs => ?_) fun e s' hs => hs
  have fin : ∀ {σ' : St} {H' : Hp} {v : V} {u : Value}, Inv (cxOf CX P w K mg base N qual scope f cdv A outer s H E) [] σ' H' s' → RelV v u → Q v H' → CE outer P w H s Q u s' :=
    fun {σ' H' v u} J rv q => ⟨v, H', J.os, J.bare, J.base, J.hok, rv, q⟩
  cases fl with
  | ret u =>
    obtain ⟨v, σ', H', J, rv, q⟩ := hs
    exact fin J rv q
  | next =>
    obtain ⟨σ', H', J, q⟩ := hs
    exact fin (v := V.non) (u := Value.none) J rfl q
  | brk =>
    obtain ⟨_, _, _, q⟩ := hs
    exact False.elim q
  | cont =>
    obtain ⟨_, _, _, q⟩ := hs
    exact False.elim q
end L2
namespace L2
open PySem PySem.Spec PyProof.Rows
section
variable {X : Cx} {x : Str} {p pos : Pos} {e : Expr} {es : List Expr} {t : TA} {id T : String} {r : List V → Hp → VK → Prop}
def tCB (r : List V → Hp → VK → Prop) (t : TA) : TE := fun σ H Q => t σ H fun vs H1 => r vs H1 Q
theorem pe_callB (hc : CallR X (.builtin id) r) (hg : Gl X x) (hm : X.mg x = none) (hv : bootBuiltins x = some (.builtin id)) (ha : PA X (e :: es) t) (hn : x ≠ "__name__" := by decide) (hdb : (x == ("__debug__" : Str)) = false := by decide)
    (he : starEach (e :: es) X.env = (false, eval e X.env) :: starEach es X.env := by rfl) (hpl : (backTo pos (starEach es X.env)).any (·.1) = false := by rfl) : PE X (.Call (.Name x p) (e :: es) [] pos) (tCB r t) := by
  intro pins s σ H Q I h
  refine wpAny_Call_Name_kw (ld_blt I hg hm hv ?_ hn hdb)
  exact PyProof.Rows.callWith_builtin1 (thn (ha pos pins s σ H _ I h) fun us s1 ⟨vs, H1, I1, r1, q1⟩ => hc pins s1 σ H1 vs us Q I1 r1 q1) he hpl
theorem pe_callTy (hc : CallR X (.type T) r) (hg : Gl X x) (hm : X.mg x = none) (hv : bootBuiltins x = some (.type T)) (ha : PA X (e :: es) t) (hn : x ≠ "__name__" := by decide) (hdb : (x == ("__debug__" : Str)) = false := by decide)
    (he : starEach (e :: es) X.env = (false, eval e X.env) :: starEach es X.env := by rfl) (hpl : (backTo pos (starEach es X.env)).any (·.1) = false := by rfl) : PE X (.Call (.Name x p) (e :: es) [] pos) (tCB r t) := by
  intro pins s σ H Q I h
  refine wpAny_Call_Name_kw (ld_blt I hg hm hv ?_ hn hdb)
  exact PyProof.Rows.callWith_type1 (thn (ha pos pins s σ H _ I h) fun us s1 ⟨vs, H1, I1, r1, q1⟩ => hc pins s1 σ H1 vs us Q I1 r1 q1) he hpl
end
end L2
namespace HT
open PySem PyProof.Rows
section
open PySem.SeqAt
open PySem.AutoSeq1 (wpAny_loadPart')
open PySem.MeetsSeq PySem.MeetsSeq2 PySem.MeetsSeq3
end
section
variable {prog : Program} {w : World} {A : Around} {E : Value → Shared → Prop} {s : Shared}
def sIx (n d : Nat) : Option Int → Nat
  | none => d
  | some v => if v < 0 then (v + (n : Int)).toNat else min v.toNat n
theorem sIx_nat (n d k : Nat) : sIx n d (some (k : Int)) = min k n := by
  show (if (k : Int) < 0 then ((k : Int) + (n : Int)).toNat else min (k : Int).toNat n) = min k n
  rw [if_neg (by omega), Int.toNat_natCast]
end
end HT
namespace L2
open PySem PySem.Spec PyProof.Rows
abbrev TO := St → Hp → (Option Int → Hp → Prop) → Prop
def PO (X : Cx) (e : Option Expr) (t : TO) : Prop :=
  ∀ (pins : List (Addr × Obj)) (s : Shared) (σ : St) (H : Hp) (Q : Option Int → Hp → Prop), Inv X pins σ H s → t σ H Q →
    wpAny (model X.prog X.w) X.A (evalPart e X.env) (fun u s' => ∃ o H', Inv X pins σ H' s' ∧ IsPart u o ∧ Q o H') X.xe s
def tNoPart : TO := fun _ H Q => Q none H
def tPart (t : TE) : TO := fun σ H Q => t σ H fun x H1 => ∃ i, x = .int i ∧ Q (some i) H1
theorem intsAre_of {ns : List Int} : ∀ {us : List Value}, Vals (ns.map V.int) us → IntsAre us ns := by
  induction ns with
  | nil => intro us r; rw [List.map_nil] at r; cases r; exact .nil
  | cons n ns ih =>
    intro us r
    rw [List.map_cons] at r
    cases r with
    | cons r1 r2 =>
      obtain ⟨t, e⟩ := r1
      subst e
      exact .cons n t (ih r2)
section
variable {X : Cx} {e : Expr} {te : TE} {lo hi : Option Expr} {tl th : TO} {pos p2 : Pos}
theorem po_none : PO X none tNoPart := by
  intro pins s σ H Q I h
  rw [evalPart_none]
  exact wpAny_pure ⟨none, H, I, .none, h⟩
theorem po_some (h : PE X e te) : PO X (some e) (tPart te) := by
  intro pins s σ H Q I hw
  rw [evalPart_some]
  refine thn (h pins s σ H _ I hw) fun u s1 ⟨x, H1, I1, r1, q1⟩ => ?_
  obtain ⟨i, rfl, q⟩ := q1
  obtain ⟨t, rfl⟩ := r1
  exact ⟨some i, H1, I1, .int i t, q⟩
def SlR (X : Cx) (r : V → Option Int → Option Int → Hp → VK → Prop) : Prop :=
  ∀ (pins : List (Addr × Obj)) (s : Shared) (σ : St) (H : Hp) (x : V) (v vl vu : Value) (lo hi : Option Int) (sl : Addr) (Q : VK), Inv X pins σ H s → RelV x v → s.heap.IsSliceOf sl vl vu .none → IsPart vl lo → IsPart vu hi → r x lo hi H Q →
    ∃ T id, typeLookup (.type T) "__getitem__" = pure (some (.builtin id)) ∧ s.TypeIs v T ∧ wpAny (model X.prog X.w) X.A (getItem v (.ref sl)) (EP X pins σ Q) X.xe s
theorem SlR.or {r r' : V → Option Int → Option Int → Hp → VK → Prop} (h : SlR X r) (h' : SlR X r') : SlR X (fun x lo hi H Q => r x lo hi H Q ∨ r' x lo hi H Q) := by
  intro pins s σ H x v vl vu lo hi sl Q I rx hs pl pu q
  rcases q with q | q
  · exact h pins s σ H x v vl vu lo hi sl Q I rx hs pl pu q
  · exact h' pins s σ H x v vl vu lo hi sl Q I rx hs pl pu q
def tSl (r : V → Option Int → Option Int → Hp → VK → Prop) (te : TE) (tl th : TO) : TE := fun σ H Q => te σ H fun x H1 => tl σ H1 fun l H2 => th σ H2 fun u H3 => r x l u H3 Q
theorem pe_slice {r : V → Option Int → Option Int → Hp → VK → Prop} (hr : SlR X r) (he : PE X e te) (hl : PO X lo tl) (hu : PO X hi th) : PE X (.Subscript e (.Slice lo hi none p2) pos) (tSl r te tl th) := by
  intro pins s σ H Q I h
  refine Subscript_ (thn (he pins s σ H _ I h) fun v s1 ⟨x, H1, I1, r1, q1⟩ => ?_)
  refine wpAny_Slice (thn (hl pins s1 σ H1 _ I1 q1) fun vl s2 ⟨l, H2, I2, pl, q2⟩ => thn (hu pins s2 σ H2 _ I2 q2) fun vu s3 ⟨u, H3, I3, pu, q3⟩ => ?_)
  rw [evalPart_none]
  refine wpAny_pure ?_
  have I4 : Inv X pins σ H3 { s3 with heap := s3.heap.push { cls := .type "slice", data := .fields #[vl, vu, .none] } } := I3.kept (t' := s3.toks) fun b ob q => Heap.get?_push_of_some _ q
  obtain ⟨T, id, hT, ht, hg⟩ := hr pins { s3 with heap := s3.heap.push { cls := .type "slice", data := .fields #[vl, vu, .none] } } σ H3 x v vl vu l u s3.heap.objs.size Q I4 r1 (Heap.IsSliceOf.new ..) pl pu q3
  show wpAny (model X.prog X.w) X.A (subscriptTail e (.Slice lo hi none p2) v (.ref s3.heap.objs.size)) (EP X pins σ Q) X.xe { s3 with heap := s3.heap.push { cls := .type "slice", data := .fields #[vl, vu, .none] } }
  exact tail_any (ops := [.ref s3.heap.objs.size, v]) ht hT hg (by with_unfolding_all rfl)
def cutV (xs : List V) (lo hi : Option Int) : List V := (xs.drop (HT.sIx xs.length 0 lo)).take (HT.sIx xs.length xs.length hi - HT.sIx xs.length 0 lo)
theorem cutV_length (xs : List V) (lo hi : Option Int) : (cutV xs lo hi).length ≤ xs.length := by
  unfold cutV
  rw [List.length_take, List.length_drop]
  omega
end
end L2
namespace L2
open PySem PySem.Spec PyProof.Rows
def ixN (n : Nat) (i : Int) : Option Nat := if 0 ≤ i then (if i < n then some i.toNat else none) else if -(n : Int) ≤ i then some (i + n).toNat else none
def atI {α : Type} (xs : List α) (i : Int) : Option α := (ixN xs.length i).bind fun j => xs[j]?
theorem ixN_seq {n : Nat} {i : Int} {j : Nat} (h : ixN n i = some j) : seqIndex? i n = some j ∧ j < n ∧ -(n : Int) ≤ i ∧ i < n := by
  unfold ixN at h
  by_cases h0 : 0 ≤ i
  · rw [if_pos h0] at h
    by_cases h1 : i < n
    · rw [if_pos h1] at h
      have e : i.toNat = j := Option.some.inj h
      exact ⟨by rw [seqIndex_of h0 h1, e], by omega, by omega, h1⟩
    · rw [if_neg h1] at h; cases h
  · rw [if_neg h0] at h
    by_cases h1 : -(n : Int) ≤ i
    · rw [if_pos h1] at h
      have e : (i + n).toNat = j := Option.some.inj h
      exact ⟨by rw [seqIndex_neg (by omega) h1, e], by omega, h1, by omega⟩
    · rw [if_neg h1] at h; cases h
theorem atI_get {α : Type} {xs : List α} {i : Int} {v : α} (h : atI xs i = some v) : ∃ j, seqIndex? i xs.length = some j ∧ xs[j]? = some v ∧ j < xs.length ∧ -(xs.length : Int) ≤ i ∧ i < xs.length := by
  unfold atI at h
  cases e : ixN xs.length i with
  | none => rw [e] at h; cases h
  | some j =>
    rw [e] at h
    obtain ⟨h1, h2, h3, h4⟩ := ixN_seq e
    exact ⟨j, h1, h, h2, h3, h4⟩
def PlainIx (b : Expr) : Prop := ∀ o i, subscripted b false o i = operate [o, i] (getItem o i)
def IxR (X : Cx) (r : R2) : Prop :=
  ∀ (value slice : Expr) (pins : List (Addr × Obj)) (s : Shared) (σ : St) (H : Hp) (x y : V) (v u : Value) (Q : VK), Inv X pins σ H s → RelV x v → RelV y u → r x y H Q →
    subscripted slice false v u = operate [v, u] (getItem v u) → wpAny (model X.prog X.w) X.A (subscriptTail value slice v u) (EP X pins σ Q) X.xe s
def MtR (X : Cx) (id : String) (r : V → List V → Hp → VK → Prop) : Prop :=
  ∀ (pins : List (Addr × Obj)) (s : Shared) (σ : St) (H : Hp) (x : V) (xs : List V) (v : Value) (us : List Value) (Q : VK), Inv X pins σ H s → RelV x v → Vals xs us → r x xs H Q →
    wpAny (model X.prog X.w) X.A (call (.builtin id) (v :: us)) (EP X pins σ Q) X.xe s
section
variable {X : Cx} {a b : Expr} {ta tb : TE} {pos : Pos}
theorem IxR.or {r r' : R2} (h : IxR X r) (h' : IxR X r') : IxR X (fun x y H Q => r x y H Q ∨ r' x y H Q) := by
  intro value slice pins s σ H x y v u Q I rx ry q hs
  rcases q with q | q
  · exact h value slice pins s σ H x y v u Q I rx ry q hs
  · exact h' value slice pins s σ H x y v u Q I rx ry q hs
theorem MtR.or {id : String} {r r' : V → List V → Hp → VK → Prop} (h : MtR X id r) (h' : MtR X id r') : MtR X id (fun x xs H Q => r x xs H Q ∨ r' x xs H Q) := by
  intro pins s σ H x xs v us Q I rx rs q
  rcases q with q | q
  · exact h pins s σ H x xs v us Q I rx rs q
  · exact h' pins s σ H x xs v us Q I rx rs q
theorem pe_ix {r : R2} (hr : IxR X r) (ha : PE X a ta) (hb : PE X b tb) (hs : PlainIx b) : PE X (.Subscript a b pos) (tOp r ta tb) := by
  intro pins s σ H Q I h
  exact Subscript_ (binT ha hb I h fun v u s2 x y H2 I2 rx ry q => hr a b pins s2 σ H2 x y v u Q I2 rx ry q (hs _ _))
def rIxL (K : PySem.W.Frag) : R2 := fun x y H Q => ∃ p xs i v, x = .ref p ∧ y = .int i ∧ SqL K H p xs ∧ atI xs i = some v ∧ Q v H
def rIxT (K : PySem.W.Frag) : R2 := fun x y H Q => ∃ p xs i v, x = .ref p ∧ y = .int i ∧ SqT K H p xs ∧ atI xs i = some v ∧ Q v H
def rIxS : R2 := fun x y H Q => ∃ z i c, x = .str z ∧ y = .int i ∧ z.length ≤ sizeLine ∧ atI z.cps.toList i = some c ∧ Q (.str ⟨#[c]⟩) H
theorem ix_list : IxR X (rIxL X.K) := by
  intro value slice pins s σ H x y v u Q I rx ry h hs
  obtain ⟨p, xs, i, z, rfl, rfl, hq, he, q⟩ := h
  cases rx
  obtain ⟨t, rfl⟩ := ry
  obtain ⟨its, r, pl, hz⟩ := I.list hq
  obtain ⟨j, h1, h2, h3, h4, h5⟩ := atI_get he
  obtain ⟨w, ew, rw'⟩ := r.get h2
  have hl := r.length
  have hn := line63
  have fin : EP X pins σ Q w s := ⟨z, H, I, rw', q⟩
  by_cases h0 : 0 ≤ i
  · have hj : i.toNat = j := by
      rw [seqIndex_of h0 h5] at h1
      exact Option.some.inj h1
    exact item_listR pl.isList h0 (by omega) (by rw [hj]; simpa using ew) fin hs
  · have hj : (i + (its.toArray.size : Int)).toNat = j := by
      rw [seqIndex_neg (by omega) h4] at h1
      rw [List.size_toArray, ← hl]
      exact Option.some.inj h1
    exact subscriptTail_builtinR (x := w) pl.isList.typeIs slot_list_getitem.lookup
      (wpAny_getItem_list_neg (Q := fun r s' => r = w ∧ EP X pins σ Q r s') pl.isList (by omega) (by rw [List.size_toArray] <;> omega) (by omega) (by rw [hj]; simpa using ew) ⟨rfl, fin⟩) hs
theorem ix_tup : IxR X (rIxT X.K) := by
  intro value slice pins s σ H x y v u Q I rx ry h hs
  obtain ⟨p, xs, i, z, rfl, rfl, hq, he, q⟩ := h
  cases rx
  obtain ⟨t, rfl⟩ := ry
  obtain ⟨its, r, pl, hz⟩ := I.tuple hq
  obtain ⟨j, h1, h2, h3, h4, h5⟩ := atI_get he
  obtain ⟨w, ew, rw'⟩ := r.get h2
  have hl := r.length
  have hn := line63
  have fin : EP X pins σ Q w s := ⟨z, H, I, rw', q⟩
  exact subscriptTail_builtinR (x := w) pl.typeIs slot_tuple_getitem.lookup
    (getItem_tuple (j := j) (Q := fun r s' => r = w ∧ EP X pins σ Q r s') pl (by omega) (by omega) (by rw [List.size_toArray, ← hl]; exact h1) (by simpa using ew) ⟨rfl, fin⟩) hs
theorem ix_str : IxR X rIxS := by
  intro value slice pins s σ H x y v u Q I rx ry h hs
  obtain ⟨z, i, c, rfl, rfl, hz, he, q⟩ := h
  obtain ⟨t, rfl⟩ := rx
  obtain ⟨t', rfl⟩ := ry
  obtain ⟨j, h1, h2, h3, h4, h5⟩ := atI_get he
  have hl : z.cps.toList.length = z.length := by simp [Str.length]
  rw [hl] at h1 h4 h5
  have hn := line63
  exact tail_any (typeIs_str s z t) slot_str_getitem.lookup (getItem_str (c := c) (by
    have e1 : decide (i < -(2 ^ 63 : Int)) = false := decide_eq_false (by omega)
    have e2 : decide (i ≥ 2 ^ 63) = false := decide_eq_false (by omega)
    rw [e1, e2, Bool.or_false]) (by rw [h1]; simpa using h2) ⟨.str ⟨#[c]⟩, H, I.tok _, ⟨_, rfl⟩, q⟩) hs
def rIx (K : PySem.W.Frag) : R2 := fun x y H Q => rIxL K x y H Q ∨ rIxT K x y H Q ∨ rIxS x y H Q
theorem ix_seq : IxR X (rIx X.K) := ix_list.or (ix_tup.or ix_str)
theorem mapSeq_set (its : List Value) (n j : Nat) (u : Value) : Obj.mapSeq (·.setIfInBounds j u) { cls := .type "list", data := .seq its.toArray n } = { cls := .type "list", data := .seq (its.set j u).toArray n } := by
  simp [Obj.mapSeq]
theorem Inv.lst {pins : List (Addr × Obj)} {σ : St} {H : Hp} {s : Shared} {p : Addr} {xs : List V} (I : Inv X pins σ H s) (h : H p = some (.lst xs)) :
    ∃ (its : List Value) (n : Nat), Vals xs its ∧ s.heap.get? p = some { cls := .type "list", data := .seq its.toArray n } ∧ xs.length ≤ sizeLine := by
  obtain ⟨z, its, n, r, e⟩ := I.hok p _ h
  exact ⟨its, n, r, e, z⟩
theorem Inv.lstUpd {pins : List (Addr × Obj)} {σ : St} {H : Hp} {s : Shared} {p : Addr} {xs ys : List V} {its its' : List Value} {n n' : Nat} {f : Obj → Obj} (I : Inv X pins σ H s) (h : H p = some (.lst xs))
    (ho : s.heap.get? p = some { cls := .type "list", data := .seq its.toArray n }) (hf : f { cls := .type "list", data := .seq its.toArray n } = { cls := .type "list", data := .seq its'.toArray n' }) (r : Vals ys its') (hz : ys.length ≤ sizeLine) (t : Nat) :
    Inv X pins σ (upd H p (.lst ys)) { s with heap := s.heap.update p f, toks := t } := by
  have e : (s.heap.update p f).get? p = some { cls := .type "list", data := .seq its'.toArray n' } := by
    rw [Heap.get?_update_self f ho (by rw [hf] <;> rfl), hf]
  refine I.write (x := p) (e := p) (by rw [h]; trivial) (.inl rfl) (fun b u hb q => (Heap.get?_update_other _ _ (Ne.symm hb)).trans q) ⟨_, e⟩ ?_
  exact ⟨hz, its', n', r, e⟩
def rSetL : V → V → V → Hp → (Hp → Prop) → Prop := fun o i v H Q => ∃ p xs k j, o = .ref p ∧ i = .int k ∧ H p = some (.lst xs) ∧ ixN xs.length k = some j ∧ Q (upd H p (.lst (xs.set j v)))
theorem set_list : PSet X rSetL := by
  intro pins s σ H o i v ov iv u Q I ro ri rv h
  obtain ⟨p, xs, k, j, rfl, rfl, hp, hj, q⟩ := h
  cases ro
  obtain ⟨t, rfl⟩ := ri
  obtain ⟨its, n, r, ho, hz⟩ := I.lst hp
  obtain ⟨h1, h2, h3, h4⟩ := ixN_seq hj
  have hl := r.length
  have hn := line63
  have I' : Inv X pins σ (upd H p (.lst (xs.set j v))) { s with heap := s.heap.update p (Obj.mapSeq (·.setIfInBounds j u)) } :=
    I.lstUpd hp ho (mapSeq_set its n j u) (r.set rv j) (by rw [List.length_set]; exact hz) s.toks
  by_cases h0 : 0 ≤ k
  · have hk : k.toNat = j := by
      rw [seqIndex_of h0 h4] at h1
      exact Option.some.inj h1
    exact PySem.W.ki_setAt ho h0 (by omega) (by rw [List.size_toArray, ← hl]; exact h4) (by rw [hk]; exact ⟨_, I', q⟩)
  · have hk : (k + (its.toArray.size : Int)).toNat = j := by
      rw [seqIndex_neg (by omega) h3] at h1
      rw [List.size_toArray, ← hl]
      exact Option.some.inj h1
    exact PySem.W.ki_setBack ho (by omega) (by rw [List.size_toArray, ← hl]; exact h3) (by omega) (by rw [hk]; exact ⟨_, I', q⟩)
theorem slice_bounds (lo hi : Option Int) (n : Nat) : (sliceBounds lo hi none n).1 = ((HT.sIx n 0 lo : Nat) : Int) ∧ (sliceBounds lo hi none n).2.1 = ((HT.sIx n n hi : Nat) : Int) ∧ (sliceBounds lo hi none n).2.2 = 1 := by
  refine ⟨?_, ?_, rfl⟩
  · cases lo with
    | none => simp [sliceBounds, HT.sIx]
    | some i =>
      simp only [sliceBounds, HT.sIx, Option.getD_none, show (1 : Int) > 0 by decide, if_true]
      by_cases h : i < 0
      · simp only [h, if_true] <;> omega
      · simp only [h, if_false] <;> omega
  · cases hi with
    | none => simp [sliceBounds, HT.sIx]
    | some i =>
      simp only [sliceBounds, HT.sIx, Option.getD_none, show (1 : Int) > 0 by decide, if_true]
      by_cases h : i < 0
      · simp only [h, if_true] <;> omega
      · simp only [h, if_false] <;> omega
theorem slicePick_cut (its : List Value) (lo hi : Option Int) : slicePick its.toArray lo hi none = ((its.drop (HT.sIx its.length 0 lo)).take (HT.sIx its.length its.length hi - HT.sIx its.length 0 lo)).toArray := by
  obtain ⟨h1, h2, h3⟩ := slice_bounds lo hi its.toArray.size
  unfold slicePick
  rw [h1, h2, h3]
  simp only [sliceRange_one, pick_run, List.size_toArray] <;> rfl
def rSlL (K : PySem.W.Frag) : V → Option Int → Option Int → Hp → VK → Prop := fun x lo hi H Q => ∃ a xs, x = .ref a ∧ SqL K H a xs ∧ ∀ p, H p = none → Q (.ref p) (upd H p (.lst (cutV xs lo hi)))
theorem sl_list : SlR X (rSlL X.K) := by
  intro pins s σ H x v vl vu lo hi sl Q I rx hs pl pu h
  obtain ⟨a, xs, rfl, hx, q⟩ := h
  cases rx
  obtain ⟨its, r, ht, hz⟩ := I.list hx
  have hlen := r.length
  refine ⟨"list", _, slot_list_getitem.lookup, ht.isList.typeIs, ?_⟩
  refine wpAny_getItem_list_slice ht.isList hs pl pu .none (by simp) ?_ (by rw [List.size_toArray] <;> omega)
  rw [slicePick_cut, ← hlen]
  refine ⟨.ref s.heap.objs.size, _, I.laid (t' := s.toks) (o := .lst (cutV xs lo hi)) (fun b ob q => Heap.get?_push_of_some _ q) (Nat.le_refl _) ?_, rfl, q _ (I.hok.fresh (Nat.le_refl _))⟩
  exact ⟨Nat.le_trans (cutV_length xs lo hi) hz, _, 0, (r.drop (HT.sIx xs.length 0 lo)).take (HT.sIx xs.length xs.length hi - HT.sIx xs.length 0 lo), Heap.get?_push_size _ rfl⟩
def flatV : V → Bool
  | .non => true
  | .bl _ => true
  | .int _ => true
  | .str _ => true
  | _ => false
def eqV : V → V → Bool
  | .non, .non => true
  | .bl a, .bl b => a == b
  | .bl a, .int b => (if a then 1 else 0) == b
  | .int a, .bl b => a == (if b then 1 else 0)
  | .int a, .int b => a == b
  | .str a, .str b => a == b
  | _, _ => false
theorem eqAt_V {A : Around} {s : Shared} {y x : V} {u v : Value} (ry : RelV y u) (rx : RelV x v) (fy : flatV y = true) (fx : flatV x = true) : SeqAt.EqAt A s u v (eqV y x) := by
  cases y with
  | non =>
    cases ry
    cases x with
    | non => cases rx; exact SeqAt.EqAt.same _
    | bl b => cases rx; exact SeqAt.EqAt.none_bool b
    | int b => obtain ⟨t, rfl⟩ := rx; exact SeqAt.EqAt.none_int b t
    | str b => obtain ⟨t, rfl⟩ := rx; exact SeqAt.EqAt.none_str b t
    | _ => exact absurd (show false = true from fx) Bool.false_ne_true
  | bl a =>
    cases ry
    cases x with
    | non => cases rx; exact SeqAt.EqAt.bool_none a
    | bl b => cases rx; exact SeqAt.EqAt.bool_bool a b
    | int b => obtain ⟨t, rfl⟩ := rx; exact SeqAt.EqAt.bool_int a b t
    | str b => obtain ⟨t, rfl⟩ := rx; exact SeqAt.EqAt.bool_str a b t
    | _ => exact absurd (show false = true from fx) Bool.false_ne_true
  | int a =>
    obtain ⟨t', rfl⟩ := ry
    cases x with
    | non => cases rx; exact SeqAt.EqAt.int_none a t'
    | bl b => cases rx; exact SeqAt.EqAt.int_bool a t' b
    | int b => obtain ⟨t, rfl⟩ := rx; exact SeqAt.EqAt.int_int a t' b t
    | str b => obtain ⟨t, rfl⟩ := rx; exact SeqAt.EqAt.int_str a t' b t
    | _ => exact absurd (show false = true from fx) Bool.false_ne_true
  | str a =>
    obtain ⟨t', rfl⟩ := ry
    cases x with
    | non => cases rx; exact SeqAt.EqAt.str_none a t'
    | bl b => cases rx; exact SeqAt.EqAt.str_bool a t' b
    | int b => obtain ⟨t, rfl⟩ := rx; exact SeqAt.EqAt.str_int a t' b t
    | str b => obtain ⟨t, rfl⟩ := rx; exact SeqAt.EqAt.str_str a t' b t
    | _ => exact absurd (show false = true from fx) Bool.false_ne_true
  | _ => exact absurd (show false = true from fy) Bool.false_ne_true
def eqU (x : V) (u : Value) : Bool := match u with
  | .none => eqV .non x
  | .bool b => eqV (.bl b) x
  | .int i _ => eqV (.int i) x
  | .str z _ => eqV (.str z) x
  | _ => false
theorem eqU_of {x y : V} {u : Value} (r : RelV y u) (f : flatV y = true) : eqU x u = eqV y x := by
  cases y with
  | non => cases r; rfl
  | bl b => cases r; rfl
  | int i => obtain ⟨t, rfl⟩ := r; rfl
  | str z => obtain ⟨t, rfl⟩ := r; rfl
  | _ => exact absurd (show false = true from f) Bool.false_ne_true
theorem any_eqU {x : V} : ∀ {xs : List V} {us : List Value}, Vals xs us → xs.all flatV = true → us.any (eqU x) = xs.any fun y => eqV y x
  | _, _, .nil, _ => rfl
  | y :: xs, u :: us, .cons r t, f => by
    rw [List.all_cons, Bool.and_eq_true] at f
    rw [List.any_cons, List.any_cons, eqU_of r f.1, any_eqU t f.2]
theorem mem_eqAt {A : Around} {s : Shared} {x : V} {v : Value} (rx : RelV x v) (fx : flatV x = true) : ∀ {xs : List V} {us : List Value}, Vals xs us → xs.all flatV = true → ∀ u ∈ us, SeqAt.EqAt A s u v (eqU x u)
  | _, _, .nil, _ => fun u hu => by cases hu
  | y :: xs, u :: us, .cons r t, f => fun u' hu => by
    rw [List.all_cons, Bool.and_eq_true] at f
    rcases List.mem_cons.mp hu with rfl | hu
    · rw [eqU_of r f.1]; exact eqAt_V r rx f.1 fx
    · exact mem_eqAt rx fx t f.2 u' hu
def inV (x : V) (xs : List V) : Bool := xs.any fun y => eqV y x
def rIn (K : PySem.W.Frag) (neg : Bool) : R2 := fun x y H Q => ∃ p xs, y = .ref p ∧ (SqL K H p xs ∨ SqT K H p xs) ∧ flatV x = true ∧ xs.all flatV = true ∧ Q (.bl (if neg then !inV x xs else inV x xs)) H
theorem op_in_seq : OpR X (compareOp .In) (rIn X.K false) := by
  intro pins s σ H x y v u Q I rx ry h
  obtain ⟨p, xs, rfl, hq, fx, fs, q⟩ := h
  cases ry
  rcases hq with hq | hq
  · obtain ⟨its, r, pl, hz⟩ := I.list hq
    refine SeqAt.in_listAt (eqU x) pl.isList (fun w hw => mem_eqAt rx fx r fs w (by simpa using hw)) ⟨.bl _, H, I, rfl, ?_⟩
    rw [show its.toArray.any (eqU x) = its.any (eqU x) by simp, any_eqU r fs]
    exact q
  · obtain ⟨its, r, pl, hz⟩ := I.tuple hq
    refine SeqAt.in_tupleAt (eqU x) pl (fun w hw => mem_eqAt rx fx r fs w (by simpa using hw)) ⟨.bl _, H, I, rfl, ?_⟩
    rw [show its.toArray.any (eqU x) = its.any (eqU x) by simp, any_eqU r fs]
    exact q
theorem call_len_seq : CallR X (.builtin "len") (fun xs H Q => ∃ p ys, xs = [.ref p] ∧ (SqL X.K H p ys ∨ SqT X.K H p ys) ∧ Q (.int ys.length) H) := by
  intro pins s σ H xs us Q I r h
  obtain ⟨p, ys, rfl, hq, q⟩ := h
  obtain ⟨u, rfl, rx⟩ := vals1 r
  cases rx
  have hn := line63
  rcases hq with hq | hq
  · obtain ⟨its, r', pl, hz⟩ := I.list hq
    have hlen := r'.length
    exact Calls.call_len_list pl.isList (by simp only [List.size_toArray] <;> omega) ⟨.int ys.length, H, I.tok _, ⟨s.toks + 1, by rw [List.size_toArray, hlen]⟩, q⟩
  · obtain ⟨its, r', pl, hz⟩ := I.tuple hq
    have hlen := r'.length
    exact len_tuple pl (by simp only [List.size_toArray] <;> omega) ⟨.int ys.length, H, I.tok _, ⟨s.toks + 1, by rw [List.size_toArray, hlen]⟩, q⟩
theorem CallR.or {f : Value} {r r' : List V → Hp → VK → Prop} (h : CallR X f r) (h' : CallR X f r') : CallR X f (fun xs H Q => r xs H Q ∨ r' xs H Q) := by
  intro pins s σ H xs us Q I rs q
  rcases q with q | q
  · exact h pins s σ H xs us Q I rs q
  · exact h' pins s σ H xs us Q I rs q
def tyV (K : PySem.W.Frag) (T : String) (x : V) (H : Hp) : Prop := match x with
  | .str _ => T = "str"
  | .int _ => T = "int"
  | .ref p => (T = "list" ∧ ∃ xs, SqL K H p xs) ∨ (T = "tuple" ∧ ∃ o, K.lookup p = some o ∧ o.cls = .type "tuple" ∧ o.dict = none) ∨
      (T = "dict" ∧ ((∃ kvs, H p = some (.dK kvs)) ∨ ∃ kvs, H p = some (.dT kvs))) ∨ (T = "set" ∧ ∃ S n, H p = some (.set S n))
  | _ => False
theorem tyV_is {pins : List (Addr × Obj)} {σ : St} {H : Hp} {s : Shared} {T : String} {x : V} {v : Value} (I : Inv X pins σ H s) (r : RelV x v) (ty : tyV X.K T x H) :
    s.TypeIs v T ∧ ∀ a, v = .ref a → ∃ ob, s.heap.get? a = some ob ∧ ob.dict = none := by
  cases x with
  | str z =>
    obtain ⟨t, rfl⟩ := r
    cases (show T = "str" from ty)
    exact ⟨typeIs_str s z t, fun _ e => nomatch e⟩
  | int i =>
    obtain ⟨t, rfl⟩ := r
    cases (show T = "int" from ty)
    exact ⟨typeIs_int s i t, fun _ e => nomatch e⟩
  | ref p =>
    cases r
    rcases ty with ⟨rfl, xs, hq⟩ | ⟨rfl, o, hk, hc, hd⟩ | ⟨rfl, hk⟩ | ⟨rfl, S, n, hk⟩
    · obtain ⟨its, _, pl, _⟩ := I.list hq
      refine ⟨pl.isList.typeIs, fun a e => ?_⟩
      cases e
      obtain ⟨o, n, e, c, hd, _⟩ := pl
      exact ⟨o, e, hd⟩
    · refine ⟨⟨o, I.kIn p o hk, hc⟩, fun a e => ?_⟩
      cases e
      exact ⟨o, I.kIn _ o hk, hd⟩
    · have z : ∃ o, s.heap.get? p = some o ∧ o.ExactDict := by
        rcases hk with ⟨kvs, hk⟩ | ⟨kvs, hk⟩
        · obtain ⟨_, _, _, _, o, _, _, e, ex, _⟩ := I.hok p _ hk
          exact ⟨o, e, ex⟩
        · obtain ⟨_, _, _, _, o, _, _, e, ex, _⟩ := I.hok p _ hk
          exact ⟨o, e, ex⟩
      obtain ⟨o, e, ex⟩ := z
      refine ⟨⟨o, e, ex.1⟩, fun a e2 => ?_⟩
      cases e2
      exact ⟨o, e, ex.2.1⟩
    · obtain ⟨o, _, _, _, e, ex, _⟩ := I.hok p _ hk
      refine ⟨⟨o, e, ex.1⟩, fun a e2 => ?_⟩
      cases e2
      exact ⟨o, e, ex.2.1⟩
  | _ => exact False.elim ty
def tBM0 (K : PySem.W.Frag) (T : String) (r : V → List V → Hp → VK → Prop) (to : TE) : TE := fun σ H Q => to σ H fun x H1 => tyV K T x H1 ∧ r x [] H1 Q
def tBM (K : PySem.W.Frag) (T : String) (r : V → List V → Hp → VK → Prop) (to : TE) (t : TA) : TE := fun σ H Q => to σ H fun x H1 => tyV K T x H1 ∧ t σ H1 fun xs H2 => r x xs H2 Q
variable {o e : Expr} {es : List Expr} {to : TE} {t : TA} {name : Str} {apos cpos : Pos} {T id : String} {r : V → List V → Hp → VK → Prop}
theorem pe_bm0 (pa : PlainAttrs T) (slot : Slot T name id) (hty : typeOf (.builtin id) = pure (.type "method_descriptor")) (hm : MtR X id r) (ho : PE X o to)
    (hbase : attributeBase o name X.env (eval o X.env) = eval o X.env := by rfl) (hline : (apos.endLine == cpos.line) = true := by rfl) : PE X (.Call (.Attribute o name apos) [] [] cpos) (tBM0 X.K T r to) := by
  intro pins s σ H Q I h
  refine wpAny_Call_method0_late hbase hline (thn (ho pins s σ H _ I h) fun v s1 ⟨x, H1, I1, r1, ty, q1⟩ => ?_)
  obtain ⟨h1, h2⟩ := tyV_is I1 r1 ty
  exact ⟨T, id, pa, slot, hty, h1, h2, Calls.callWith_builtin rfl (PySem.evalArgs_none (hm pins s1 σ H1 x [] v [] Q I1 r1 .nil q1))⟩
theorem pe_bm (pa : PlainAttrs T) (slot : Slot T name id) (hty : typeOf (.builtin id) = pure (.type "method_descriptor")) (hm : MtR X id r) (ho : PE X o to) (ha : PA X (e :: es) t)
    (hbase : attributeBase o name X.env (eval o X.env) = eval o X.env := by rfl)
    (hfew : ((backTo cpos (starEach (e :: es) X.env)).all (fun x => !x.1) && (backToKw cpos (keywordEach [] X.env)).all (fun x => x.1.isSome)
      && decide ((e :: es).length + ([] : List Keyword).length + (if ([] : List Keyword).isEmpty then 0 else 1) < 30)) = true := by rfl)
    (hline : (apos.endLine == cpos.line) = true := by rfl) (hs : starEach (e :: es) X.env = (false, eval e X.env) :: starEach es X.env := by rfl) (hplain : (backTo cpos (starEach es X.env)).any (·.1) = false := by rfl) :
    PE X (.Call (.Attribute o name apos) (e :: es) [] cpos) (tBM X.K T r to t) := by
  intro pins s σ H Q I h
  refine wpAny_Call_method_late hbase hfew hline rfl (thn (ho pins s σ H _ I h) fun v s1 ⟨x, H1, I1, r1, ty, q1⟩ => ?_)
  obtain ⟨h1, h2⟩ := tyV_is I1 r1 ty
  refine ⟨T, id, pa, slot, hty, h1, h2, ?_⟩
  have hA := ha cpos pins s1 σ H1 _ I1 q1
  rw [hs] at hA ⊢
  refine Calls.callWith_builtin (by show (false || (backTo cpos (starEach es X.env)).any (·.1)) = false; rw [hplain] <;> rfl) (Calls.evalArgs_plain ?_)
  exact thn hA fun us s2 ⟨vs, H2, I2, r2, q2⟩ => hm pins s2 σ H2 x vs v us Q I2 r1 r2 q2
end
end L2
namespace L2
open PySem PySem.Spec PyProof.Rows
def MtM (X : Cx) (id : String) (r : V → List V → Hp → VK → Prop) : Prop :=
  ∀ (pins : List (Addr × Obj)) (s : Shared) (σ : St) (H : Hp) (x : V) (xs : List V) (v : Value) (us : List Value) (Q : VK), Inv X pins σ H s → RelV x v → Vals xs us → r x xs H Q →
    wpAny (model X.prog X.w) X.A (call (.builtin id) (v :: us)) (EP X pins σ Q) X.xe s
theorem Vals.one : ∀ {x : V} {us : List Value}, Vals [x] us → ∃ u, us = [u] ∧ RelV x u
  | _, _, .cons r .nil => ⟨_, rfl, r⟩
theorem Vals.zero : ∀ {us : List Value}, Vals [] us → us = []
  | _, .nil => rfl
theorem Vals.dropLast {xs : List V} {us : List Value} (h : Vals xs us) : Vals xs.dropLast us.dropLast := by
  induction h with
  | nil => exact .nil
  | cons r t ih =>
    cases t with
    | nil => exact .nil
    | cons q t' => exact .cons r ih
theorem Vals.eraseIdx : ∀ {xs : List V} {us : List Value} (i : Nat), Vals xs us → Vals (xs.eraseIdx i) (us.eraseIdx i)
  | _, _, _, .nil => .nil
  | _, _, 0, .cons _ t => t
  | _, _, i + 1, .cons r t => .cons r (Vals.eraseIdx i t)
theorem Vals.reverse {xs : List V} {us : List Value} (h : Vals xs us) : Vals xs.reverse us.reverse := by
  induction h with
  | nil => exact .nil
  | cons r t ih => rw [List.reverse_cons, List.reverse_cons]; exact Vals.append ih (.cons r .nil)
theorem Vals.rep {xs : List V} {us : List Value} (h : Vals xs us) : ∀ k : Nat, Vals (List.replicate k xs).flatten (List.replicate k us).flatten
  | 0 => .nil
  | k + 1 => by
    rw [List.replicate_succ, List.replicate_succ, List.flatten_cons, List.flatten_cons]
    exact Vals.append h (Vals.rep h k)
theorem foldl_rep (its : List Value) : ∀ (k : Nat) (acc : List Value),
    List.foldl (fun x1 x2 => x1 ++ x2) acc.toArray (List.replicate k its.toArray) = (acc ++ (List.replicate k its).flatten).toArray
  | 0, acc => by simp
  | k + 1, acc => by
    have e : acc.toArray ++ its.toArray = (acc ++ its).toArray := by simp
    have e2 : (acc ++ its) ++ (List.replicate k its).flatten = acc ++ (List.replicate (k + 1) its).flatten := by
      rw [List.replicate_succ, List.flatten_cons, List.append_assoc]
    rw [← e2, ← foldl_rep its k (acc ++ its), ← e, List.replicate_succ, List.foldl_cons]
section
variable {X : Cx} {pins : List (Addr × Obj)} {σ : St} {H : Hp} {s : Shared} {l b : Addr} {xs ys zs : List V}
theorem Inv.lset {its its' : List Value} {n : Nat} {f : Array Value → Array Value} {t' : Nat} (I : Inv X pins σ H s) (hH : H l = some (.lst xs))
    (e : s.heap.get? l = some { cls := .type "list", data := .seq its.toArray n }) (hf : f its.toArray = its'.toArray) (hv : Vals ys its') (hz : ys.length ≤ sizeLine) :
    Inv X pins σ (upd H l (.lst ys)) { s with heap := s.heap.update l (Obj.mapSeq f), toks := t' } := by
  have q := PySem.IsL.update e f
  rw [hf] at q
  refine I.write (x := l) (e := l) (by rw [hH]; exact trivial) (.inl rfl) (fun b' u hb hu => (Heap.get?_update_other s.heap (Obj.mapSeq f) (Ne.symm hb)).trans hu) ⟨_, q⟩ ?_
  exact ⟨hz, its', _, hv, q⟩
theorem Inv.lnew {its : List Value} {t' : Nat} (I : Inv X pins σ H s) (hv : Vals ys its) (hz : ys.length ≤ sizeLine) :
    Inv X pins σ (upd H s.heap.objs.size (.lst ys)) { s with heap := s.heap.push { cls := .type "list", data := .seq its.toArray }, toks := t' } :=
  I.laid (fun _ _ q => Heap.get?_push_of_some _ q) (Nat.le_refl _) ⟨hz, its, 0, hv, Heap.get?_push_size _ rfl⟩
theorem Inv.fresh (I : Inv X pins σ H s) : H s.heap.objs.size = none := I.hok.fresh (Nat.le_refl _)
theorem Inv.lstM (I : Inv X pins σ H s) (hH : H l = some (.lst xs)) : xs.length ≤ sizeLine ∧ ∃ (its : List Value) (n : Nat), Vals xs its ∧ xs.length = its.length ∧ s.heap.get? l = some { cls := .type "list", data := .seq its.toArray n } := by
  obtain ⟨z, its, n, r, e⟩ := I.hok l _ hH
  exact ⟨z, its, n, r, r.length, e⟩
theorem notLongL {n : Nat} (h : n ≤ sizeLine) : Builtin.List.listTooLong n = false := by
  unfold Builtin.List.listTooLong
  exact decide_eq_false (by omega)
end
section
variable {X : Cx}
def rAppend : V → List V → Hp → VK → Prop := fun x vs H Q => ∃ l xs y, x = .ref l ∧ vs = [y] ∧ H l = some (.lst xs) ∧ xs.length < sizeLine ∧ Q .non (upd H l (.lst (xs ++ [y])))
theorem mt_append : MtM X "list.append" rAppend := by
  intro pins s σ H x vs v us Q I rx rv h
  obtain ⟨l, xs, y, rfl, rfl, hH, hz, q⟩ := h
  cases rx
  obtain ⟨u, rfl, ru⟩ := rv.one
  obtain ⟨z, its, n, r, hl, e⟩ := I.lstM hH
  refine call_meets F.slot_list_append ⟨_, e, rfl⟩ F.entry_list_append (F.args_list_append_2 _ _) (PySem.list_append l its.toArray n u (by rw [List.size_toArray]; omega)) ⟨e, ?_⟩
  refine ⟨.non, _, I.lset (its' := its ++ [u]) hH e (by simp) (r.append (.cons ru .nil)) ?_, rfl, q⟩
  rw [List.length_append, List.length_singleton]
  omega
def rExtend : V → List V → Hp → VK → Prop := fun x vs H Q => ∃ l b xs zs, x = .ref l ∧ vs = [.ref b] ∧ H l = some (.lst xs) ∧ H b = some (.lst zs) ∧ xs.length + zs.length ≤ sizeLine ∧ Q .non (upd H l (.lst (xs ++ zs)))
theorem mt_extend : MtM X "list.extend" rExtend := by
  intro pins s σ H x vs v us Q I rx rv h
  obtain ⟨l, b, xs, zs, rfl, rfl, hH, hB, hz, q⟩ := h
  cases rx
  obtain ⟨u, rfl, ru⟩ := rv.one
  cases ru
  obtain ⟨z, its, n, r, hl, e⟩ := I.lstM hH
  obtain ⟨z2, its2, n2, r2, hl2, e2⟩ := I.lstM hB
  have hsz : its.toArray.size + its2.toArray.size ≤ sizeLine := by rw [List.size_toArray, List.size_toArray]; omega
  have hlong : ¬ (!its.toArray.isEmpty && Builtin.List.listTooLong (its.toArray.size + its2.toArray.size)) = true := by
    rw [notLongL hsz, Bool.and_false]
    exact Bool.false_ne_true
  refine call_meets F.slot_list_extend ⟨_, e, rfl⟩ F.entry_list_extend (F.args_list_extend_2 _ _)
    (AutoSeq1.list_extend_list_list_0 l its.toArray n b its2.toArray n2 hlong (by rw [List.size_toArray]; omega) (by omega)) ⟨e, e2, ?_⟩
  refine ⟨.non, _, I.lset (its' := its ++ its2) hH e (by simp) (r.append r2) ?_, rfl, q⟩
  rw [List.length_append]
  omega
def rRep : R2 := fun x y H Q => ∃ l k xs, x = .ref l ∧ y = .int k ∧ H l = some (.lst xs) ∧ -(2 ^ 63) ≤ k ∧ k < 2 ^ 63 ∧ xs.length * k.toNat ≤ sizeLine ∧
  ∀ p, H p = none → Q (.ref p) (upd H p (.lst (List.replicate k.toNat xs).flatten))
theorem len_rep {α : Type} (xs : List α) (k : Nat) : (List.replicate k xs).flatten.length = k * xs.length := by
  induction k with
  | zero => simp
  | succ k ih => rw [List.replicate_succ, List.flatten_cons, List.length_append, ih, Nat.succ_mul, Nat.add_comm]
theorem op_rep : OpR X (binaryOp .Mult) rRep := by
  intro pins s σ H x y v u Q I rx ry h
  obtain ⟨l, k, xs, rfl, rfl, hH, h1, h2, hz, q⟩ := h
  cases rx
  obtain ⟨t, rfl⟩ := ry
  obtain ⟨z, its, n, r, hl, e⟩ := I.lstM hH
  have hlen : its.toArray.size * k.toNat ≤ sizeLine := by rw [List.size_toArray, ← hl]; exact hz
  have hcap : ¬ its.toArray.size * k.toNat > (2 ^ 63 - 1) / 8 := by
    have : (sizeLine : Nat) ≤ (2 ^ 63 - 1) / 8 := by decide
    omega
  have hfit : ¬ (!Builtin.List.listFitsIndex k) = true := by
    rw [fitsIndex_both h1 h2]
    exact Bool.false_ne_true
  have hlong : ¬ Builtin.List.listTooLong (its.toArray.size * k.toNat) = true := by
    rw [notLongL hlen]
    exact Bool.false_ne_true
  have hnew : List.foldl (fun x1 x2 => x1 ++ x2) #[] (List.replicate (if its.toArray.isEmpty = true then 0 else k.toNat) its.toArray) = (List.replicate k.toNat its).flatten.toArray := by
    have f0 : ∀ m : Nat, List.foldl (fun x1 x2 => x1 ++ x2) #[] (List.replicate m its.toArray) = (List.replicate m its).flatten.toArray := fun m => by
      have := foldl_rep its m []
      rw [List.nil_append] at this
      exact this
    rw [f0]
    cases its with
    | nil => simp
    | cons a r' => rw [if_neg (by simp)]
  refine wpAny_binaryOp_repeat_ref (T := "list") (U := "int") (by decide) ⟨_, e, rfl⟩ (fun s' => typeIs_int s' k t) noFill_list_mul F.fills_int_mul F.slot_int_rmul repeat_list F.slot_int_index.lookup
    (call_meets F.slot_int_rmul (typeIs_int s k t) F.entry_int_rmul (F.args_int_rmul_2 _ _) (int___rmul___int_list k t l its.toArray n)
      ⟨e, rfl, ⟨_, e, rfl⟩, call_meets F.slot_list_mul ⟨_, e, rfl⟩ F.entry_list_mul (F.args_list_mul_2 _ _) (AutoListH.list___mul___list_int_3 l its.toArray n k t hfit hcap hlong) ⟨e, ?_⟩⟩)
  rw [hnew]
  exact ⟨.ref _, _, I.lnew (t' := s.toks) (r.rep k.toNat) (by rw [len_rep, Nat.mul_comm]; exact hz), rfl, q _ I.fresh⟩
end
section
variable {prog : Program} {w : World} {A : Around} {E : Value → Shared → Prop} {s : Shared}
set_option maxRecDepth 100000 in
end
section
variable {X : Cx}
end
end L2
namespace L2
open PySem PySem.Spec PyProof.Rows
section
variable {κ : Type} [DecidableEq κ]
def valV (kvs : List (κ × V)) (k : κ) : Option V := (kvs.find? fun kv => decide (kv.1 = k)).map (·.2)
def putK (kvs : List (κ × V)) (k : κ) (v : V) : List (κ × V) :=
  if (kvs.any fun kv => decide (kv.1 = k)) = true then kvs.map (fun kv => if kv.1 = k then (kv.1, v) else kv) else kvs ++ [(k, v)]
def dropK (kvs : List (κ × V)) (k : κ) : List (κ × V) := kvs.filter fun kv => decide (kv.1 ≠ k)
theorem valV_pos {p : κ × V} {r : List (κ × V)} {k : κ} (e : p.1 = k) : valV (p :: r) k = some p.2 := by simp [valV, List.find?_cons, e]
theorem valV_neg {p : κ × V} {r : List (κ × V)} {k : κ} (e : ¬ p.1 = k) : valV (p :: r) k = valV r k := by simp [valV, List.find?_cons, e]
theorem valV_any (k : κ) : ∀ kvs : List (κ × V), (kvs.any fun kv => decide (kv.1 = k)) = (valV kvs k).isSome
  | [] => rfl
  | p :: r => by
    rw [List.any_cons]
    by_cases e : p.1 = k
    · simp only [valV_pos e, decide_eq_true e, Bool.true_or, Option.isSome_some]
    · rw [valV_neg e, decide_eq_false e, Bool.false_or]; exact valV_any k r
theorem RelO.isSome_eq {o : Option V} {u : Option Value} (r : RelO o u) : o.isSome = u.isSome := by
  cases o with
  | none => cases u with
    | none => rfl
    | some _ => exact (show False from r).elim
  | some _ => cases u with
    | none => exact (show False from r).elim
    | some _ => rfl
theorem RelO.getD {o : Option V} {u : Option Value} {d : V} {d' : Value} (r : RelO o u) (rd : RelV d d') : RelV (o.getD d) (u.getD d') := by
  cases o with
  | none => cases u with
    | none => exact rd
    | some _ => exact (show False from r).elim
  | some _ => cases u with
    | none => exact (show False from r).elim
    | some _ => exact r
theorem KV.val {kvs : List (κ × V)} {vs : List (κ × Value)} (r : KV kvs vs) (k : κ) : RelO (valV kvs k) (valueAt vs k) := by
  unfold KV at r
  induction r with
  | nil => exact True.intro
  | @cons p q ps qs h t ih =>
    obtain ⟨h1, h2⟩ := h
    by_cases e : p.1 = k
    · have e' : q.1 = k := h1.symm.trans e
      have b : valueAt (q :: qs) k = some q.2 := by simp [valueAt, List.find?_cons, e']
      rw [valV_pos e, b]; exact h2
    · have e' : ¬ q.1 = k := fun z => e (h1.trans z)
      have b : valueAt (q :: qs) k = valueAt qs k := by simp [valueAt, List.find?_cons, e']
      rw [valV_neg e, b]; exact ih
theorem KV.any {kvs : List (κ × V)} {vs : List (κ × Value)} (r : KV kvs vs) (k : κ) : (kvs.any fun kv => decide (kv.1 = k)) = vs.any fun kv => decide (kv.1 = k) := by
  unfold KV at r
  induction r with
  | nil => rfl
  | cons h t ih => rw [List.any_cons, List.any_cons, ih, h.1]
theorem KV.repl {kvs : List (κ × V)} {vs : List (κ × Value)} (r : KV kvs vs) (k : κ) {y : V} {u : Value} (ry : RelV y u) :
    KV (kvs.map fun kv => if kv.1 = k then (kv.1, y) else kv) (vs.map fun kv => if kv.1 = k then (kv.1, u) else kv) := by
  unfold KV at r ⊢
  induction r with
  | nil => exact .nil
  | @cons p q ps qs h t ih =>
    rw [List.map_cons, List.map_cons]
    refine .cons ?_ ih
    obtain ⟨h1, h2⟩ := h
    by_cases e : p.1 = k
    · rw [if_pos e, if_pos (h1.symm.trans e)]; exact ⟨h1, ry⟩
    · rw [if_neg e, if_neg (fun z => e (h1.trans z))]; exact ⟨h1, h2⟩
theorem KV.put {kvs : List (κ × V)} {vs : List (κ × Value)} (r : KV kvs vs) (k : κ) {y : V} {u : Value} (ry : RelV y u) : KV (putK kvs k y) (stored vs k u) := by
  unfold putK stored
  rw [r.any k]
  by_cases e : (vs.any fun kv => decide (kv.1 = k)) = true
  · rw [if_pos e, if_pos e]; exact r.repl k ry
  · rw [if_neg e, if_neg e]; exact Paired.snoc r ⟨rfl, ry⟩
theorem KV.drop {kvs : List (κ × V)} {vs : List (κ × Value)} (r : KV kvs vs) (k : κ) : KV (dropK kvs k) (without vs k) := by
  unfold KV at r ⊢
  unfold dropK without
  induction r with
  | nil => exact .nil
  | @cons p q ps qs h t ih =>
    obtain ⟨h1, h2⟩ := h
    rw [List.filter_cons, List.filter_cons]
    by_cases e : p.1 = k
    · have a : ¬ decide (p.1 ≠ k) = true := by simp [e]
      have b : ¬ decide (q.1 ≠ k) = true := by simp [h1.symm.trans e]
      rw [if_neg a, if_neg b]; exact ih
    · have e' : ¬ q.1 = k := fun z => e (h1.trans z)
      have a : decide (p.1 ≠ k) = true := by simp [e]
      have b : decide (q.1 ≠ k) = true := by simp [e']
      rw [if_pos a, if_pos b]; exact .cons ⟨h1, h2⟩ ih
theorem KV.length {kvs : List (κ × V)} {vs : List (κ × Value)} (r : KV kvs vs) : kvs.length = vs.length := Paired.length r
end
abbrev KT (H : Hp) : List (List Key × V) → List (List Key × Addr × Value) → Prop := Paired fun p q => p.1 = q.1 ∧ H q.2.1 = some (.tup (p.1.map kV)) ∧ RelV p.2 q.2.2
theorem KT.val {H : Hp} {kvs : List (List Key × V)} {xs : List (List Key × Addr × Value)} (r : KT H kvs xs) (k : List Key) : RelO (valV kvs k) ((atKey xs k).map (·.2)) := by
  induction r with
  | nil => exact True.intro
  | @cons p q ps qs h t ih =>
    obtain ⟨h1, _, h2⟩ := h
    by_cases e : p.1 = k
    · have e' : q.1 = k := h1.symm.trans e
      have b : atKey (q :: qs) k = some q.2 := by simp [atKey, List.find?_cons, e']
      rw [valV_pos e, b]; exact h2
    · have e' : ¬ q.1 = k := fun z => e (h1.trans z)
      have b : atKey (q :: qs) k = atKey qs k := by simp [atKey, List.find?_cons, e']
      rw [valV_neg e, b]; exact ih
theorem KT.repl {H : Hp} {kvs : List (List Key × V)} {xs : List (List Key × Addr × Value)} (r : KT H kvs xs) (k : List Key) {y : V} {u : Value} (ry : RelV y u) :
    KT H (kvs.map fun kv => if kv.1 = k then (kv.1, y) else kv) (xs.map (putAt k u)) := by
  induction r with
  | nil => exact .nil
  | @cons p q ps qs h t ih =>
    rw [List.map_cons, List.map_cons]
    refine .cons ?_ ih
    obtain ⟨h1, h2, h3⟩ := h
    unfold putAt
    by_cases e : p.1 = k
    · rw [if_pos e, if_pos (h1.symm.trans e)]; exact ⟨h1, h2, ry⟩
    · rw [if_neg e, if_neg (fun z => e (h1.trans z))]; exact ⟨h1, h2, h3⟩
theorem KT.put {H : Hp} {kvs : List (List Key × V)} {xs : List (List Key × Addr × Value)} (r : KT H kvs xs) (k : List Key) {b : Addr} {y : V} {u : Value} (hb : H b = some (.tup (k.map kV))) (ry : RelV y u) :
    KT H (putK kvs k y) (storedH xs k b u) := by
  have e : (kvs.any fun kv => decide (kv.1 = k)) = (atKey xs k).isSome := by
    rw [valV_any, (r.val k).isSome_eq, Option.isSome_map]
  unfold putK storedH
  rw [e]
  by_cases q : (atKey xs k).isSome = true
  · rw [if_pos q, if_pos q]; exact r.repl k ry
  · rw [if_neg q, if_neg q]; exact Paired.snoc r ⟨rfl, hb, ry⟩
theorem KT.keeps {H H' : Hp} {kvs : List (List Key × V)} {xs : List (List Key × Addr × Value)} (r : KT H kvs xs) (ht : ∀ b ys, H b = some (.tup ys) → H' b = some (.tup ys)) : KT H' kvs xs :=
  Paired.mapP r fun _ _ z => ⟨z.1, ht _ _ z.2.1, z.2.2⟩
section
variable {P : Program} {w : World} {H : Hp} {h : Heap} {a : Addr}
end
def DGet (H : Hp) (a : Addr) (y : V) (r : Option V) : Prop :=
  (∃ kvs k, Rd H a (.dK kvs) ∧ y = kV k ∧ r = valV kvs k) ∨ ∃ kvs k b, Rd H a (.dT kvs) ∧ y = .ref b ∧ H b = some (.tup (k.map kV)) ∧ r = valV kvs k
def DPut (H : Hp) (a : Addr) (y v : V) (H' : Hp) : Prop :=
  (∃ kvs k, H a = some (.dK kvs) ∧ y = kV k ∧ kvs.length < sizeLine ∧ H' = upd H a (.dK (putK kvs k v))) ∨
  ∃ kvs k b, H a = some (.dT kvs) ∧ y = .ref b ∧ H b = some (.tup (k.map kV)) ∧ kvs.length < sizeLine ∧ H' = upd H a (.dT (putK kvs k v))
theorem DGet.k {H : Hp} {a : Addr} {kvs : List (Key × V)} {k : Key} (e : H a = some (.dK kvs)) : DGet H a (kV k) (valV kvs k) := .inl ⟨kvs, k, .inl e, rfl, rfl⟩
theorem DGet.t {H : Hp} {a b : Addr} {kvs : List (List Key × V)} {k : List Key} (e : H a = some (.dT kvs)) (eb : H b = some (.tup (k.map kV))) : DGet H a (.ref b) (valV kvs k) := .inr ⟨kvs, k, b, .inl e, rfl, eb, rfl⟩
theorem DPut.k {H : Hp} {a : Addr} {kvs : List (Key × V)} {k : Key} {v : V} (e : H a = some (.dK kvs)) (hl : kvs.length < sizeLine) : DPut H a (kV k) v (upd H a (.dK (putK kvs k v))) := .inl ⟨kvs, k, e, rfl, hl, rfl⟩
theorem DPut.t {H : Hp} {a b : Addr} {kvs : List (List Key × V)} {k : List Key} {v : V} (e : H a = some (.dT kvs)) (eb : H b = some (.tup (k.map kV))) (hl : kvs.length < sizeLine) :
    DPut H a (.ref b) v (upd H a (.dT (putK kvs k v))) := .inr ⟨kvs, k, b, e, rfl, eb, hl, rfl⟩
section
variable {X : Cx} {pins : List (Addr × Obj)} {σ : St} {H : Hp} {s : Shared} {a : Addr} {y v : V} {u r : Value} {o : Option V} {A : Around} {E : Value → Shared → Prop}
theorem Inv.big (I : Inv X pins σ H s) : sysModules < s.heap.objs.size := by
  have h : mainGlobals < s.heap.objs.size := (I.mod.glob.keeps I.bk).lt
  exact Nat.lt_trans (by decide) h
end
section
variable {X : Cx} {pins : List (Addr × Obj)} {σ : St} {H : Hp} {s : Shared} {a : Addr} {kvs : List (Key × V)} {k : Key} {u : Value} {A : Around} {E : Value → Shared → Prop}
end
def tDGet (td ty : TE) : TE := fun σ H Q => td σ H fun x H1 => ty σ H1 fun y H2 => ∃ a v, x = .ref a ∧ DGet H2 a y (some v) ∧ Q v H2
def sDPut (td ty tv : TE) : TS := fun D σ H => tv σ H fun v H1 => td σ H1 fun x H2 => ty σ H2 fun y H3 => ∃ a H4, x = .ref a ∧ DPut H3 a y v H4 ∧ D.nx σ H4
section
variable {X : Cx} {o i e value : Expr} {pos pos' tpos : Pos} {td ty tv : TE}
end
def tDNewK : TE := fun _ H Q => ∀ p, H p = none → Q (.ref p) (upd H p (.dK []))
section
variable {X : Cx} {pos : Pos}
end
structure M1 (X : Cx) (o : Expr) (m : Str) (apos : Pos) (e : Expr) (cpos : Pos) : Prop where
  base : attributeBase o m X.env (eval o X.env) = eval o X.env
  few : ((backTo cpos (starEach [e] X.env)).all (fun x => !x.1) && (backToKw cpos (keywordEach [] X.env)).all (fun x => x.1.isSome)
    && decide (([e] : List Expr).length + ([] : List Keyword).length + (if ([] : List Keyword).isEmpty then 0 else 1) < 30)) = true
  line : (apos.endLine == cpos.line) = true
  trees : backTo cpos (starEach [e] X.env) = [(false, eval e X.env)]
structure M2 (X : Cx) (o : Expr) (m : Str) (apos : Pos) (e f : Expr) (cpos : Pos) : Prop where
  base : attributeBase o m X.env (eval o X.env) = eval o X.env
  few : ((backTo cpos (starEach [e, f] X.env)).all (fun x => !x.1) && (backToKw cpos (keywordEach [] X.env)).all (fun x => x.1.isSome)
    && decide (([e, f] : List Expr).length + ([] : List Keyword).length + (if ([] : List Keyword).isEmpty then 0 else 1) < 30)) = true
  line : (apos.endLine == cpos.line) = true
  trees : backTo cpos (starEach [e, f] X.env) = [(false, eval e X.env), (false, eval f X.env)]
section
variable {X : Cx} {pins : List (Addr × Obj)} {σ : St} {H : Hp} {s : Shared} {a : Addr} {y d : V} {u r : Value} {o : Option V} {A : Around} {E : Value → Shared → Prop}
end
section
variable {X : Cx} {o e f : Expr} {apos cpos : Pos} {td ty tx : TE}
end
section
variable {X : Cx} {pins : List (Addr × Obj)} {σ : St} {H : Hp} {s : Shared} {a : Addr} {kvs : List (Key × V)} {A : Around} {E : Value → Shared → Prop}
end
section
variable {X : Cx} {pins : List (Addr × Obj)} {σ : St} {H : Hp} {s : Shared} {a : Addr} {y : V} {u : Value} {A : Around} {E : Value → Shared → Prop}
end
end L2
namespace Att
open PySem PySem.W PySem.Calls PyProof.Rows
theorem ints_of_wellAll {P : Params} {h : Heap} : ∀ (ns : List Int) (vs : List Value), WellAll P h vs (ns.map WData.int) → IntsAre vs ns := by
  intro ns
  induction ns with
  | nil =>
    intro vs w
    rw [List.map_nil] at w
    cases w
    exact .nil
  | cons n ns ih =>
    intro vs w
    rw [List.map_cons] at w
    cases w with
    | cons a b =>
      cases a
      exact .cons _ _ (ih _ b)
theorem script_of {l : OpenLaw} {n : Nat} (hn : l.most = some n) {P : Params} {h : Heap} {args : List WData} {vals : List Value}
    (hpre : l.row.toRowW.claim.pre args = true) (hwl : WellAll P h vals args) :
    ∃ a vs ns, vals = [Value.ref a] ∧ args = [WData.list (ns.map WData.int)] ∧ h.get? a = some { cls := .type "list", data := .seq vs.toArray } ∧ IntsAre vs ns ∧ ns.length ≤ n := by
  have hsh : WShape.hasAll [] args [.list .int] = true := (pre_splitW hpre).1
  have hc : l.pre.holds [] { args := args } = true := (pre_splitW hpre).2
  obtain ⟨d, r, rfl, h1, h2⟩ := hasAllW_cons hsh
  obtain rfl := hasAllW_nil h2
  obtain ⟨xs, rfl, h3⟩ := hasW_list h1
  obtain ⟨ns, rfl⟩ := items_int h3
  have hlen : ns.length ≤ n := by
    unfold OpenLaw.pre at hc
    have h4 : (WTm.not (.lt (.lit (.int (n : Int))) (.len (.arg 0)))).holds [] { args := [.list (ns.map .int)] } = true := by
      have h4 := (holds_andW hc).1
      rw [hn] at h4
      exact h4
    have h5 := condW_of h4 (w_not (w_lt w_lit (w_len_list (w_arg rfl))))
    rw [List.length_map] at h5
    refine Nat.le_of_not_lt fun q => ?_
    have q' : (n : Int) < ((ns.length : Nat) : Int) := by omega
    first
      | (rw [decide_eq_true q'] at h5; exact absurd h5 (by decide))
      | (simp at h5; omega)
  cases hwl with
  | cons w1 w2 =>
    cases w2
    cases w1 with
    | list ho hall => exact ⟨_, _, ns, rfl, rfl, ho, ints_of_wellAll ns _ hall, hlen⟩
theorem post_true (l : OpenLaw) (args : List WData) : l.row.toRowW.claim.post args (.bool true) args = true :=
  postW_of (r := l.row.toRowW) (X := (true == true))
    (show WShape.has [] (.bool true) .bool = true by first | rfl | decide | simp [WShape.has, WShape.arms, WShape.armsAll])
    (show (WTm.eq .res (.lit (.bool true))).value [] { args := args, res := some (.bool true), after := args } = some (.bool (true == true)) from w_eq_bool (w_res rfl) w_lit) rfl
theorem attach_call {l : OpenLaw} {n : Nat} {q : Program} {loose : List Str} {XP : (Str → Option Value) → Heap → Prop} {YP : World → Heap → Prop} {d : DefRec}
    (hn : l.most = some n) (hdf : d.params.defaults = [])
    (call : ∀ (w : World) (s₀ s₁ : Shared) (mg mb : Str → Option Value) (fa : Addr) (o : Obj) (pm cd doc : Value) (a : Addr) (vs : List Value) (ns : List Int),
      Ground q loose [] XP w s₀ mg mb s₁.heap → YP w s₁.heap →
      s₁.heap.get? fa = some o → o.data = .func (docDef d.name d.params d.body d.scope pm cd doc) → s₁.heap.CodeRec cd d.name → mg d.name = some (.ref fa) →
      s₁.heap.get? a = some { cls := .type "list", data := .seq vs.toArray } → IntsAre vs ns → ns.length ≤ n → s₁.gens = #[] →
      codeAny (model l.prog w) callerA (.call (.ref fa) ⟨[.ref a], []⟩) (fun r s' => r = .ok (.ret (.bool true)) ∧ OldK s₁.heap s'.heap ∧ s'.os = s₁.os ∧ AllBare s'.gens) s₁) :
    WalkO q loose XP YP l.row.toRowW d [] (fun f vs => PySem.call f vs) := by
  intro w s₀ s₁ mg mb G Y fa o pm cd doc dV kV ho hd hcd hD hmg hg args vals as hpre hlay hrd hwl hlo
  obtain rfl : dV = .none := Dflts.none hD hdf
  obtain rfl : kV = .none := Dflts.noKw hD
  obtain ⟨a, vs, ns, rfl, rfl, hobj, hints, hlen⟩ := script_of hn hpre hwl
  refine enter_call (codeAny_mono (call w s₀ s₁ mg mb fa o pm cd doc a vs ns G Y ho (fd_plain hd) hcd hmg hobj hints hlen hg) fun r s' hq => ?_)
  obtain ⟨rfl, h2, h3, h4⟩ := hq
  exact ⟨.inl ⟨.bool true, .bool true, [], rfl, fun _ => rfl, .bool true, post_true l _, fun _ => ⟨List.Pairwise.nil, fun _ hm => (nomatch hm)⟩⟩, h2, h3, h4⟩
section
variable {prog : Program} {w : World} {A : Around} {E : Value → Shared → Prop} {s : Shared} {K : Frag}
end
end Att
namespace L2
open PySem PySem.Spec PyProof.Rows
theorem vals_ints : ∀ {vs : List Value} {ns : List Int}, IntsAre vs ns → Vals (ns.map V.int) vs
  | _, _, .nil => .nil
  | _, _, .cons n t h => .cons ⟨t, rfl⟩ (vals_ints h)
def Only (H : Hp) : Prop := ∀ b, H b = none ∨ ∃ o xs, H b = some (.frz o (.lst xs))
theorem law_call {P : Program} {w : World} {K : PySem.W.Frag} {mg mb : Str → Option Value} {CX : CXT} {k : Nat} {fa a : Addr} {fd : FuncData} {x : Str} {sp : Sp} {s₁ : Shared} {vs : List Value} {ns : List Int}
    (KX : K.In s₁.heap) (hns : s₁.heap.Ns mainGlobals mg) (hb : s₁.heap.Ns builtinsNs mb) (hbb : ∀ x : Str, x ≠ "__name__" → mb x = bootBuiltins x) (hlim : s₁.heap.NoLimit) (hg : s₁.gens = #[])
    (ha : s₁.heap.get? a = some { cls := .type "list", data := .seq vs.toArray }) (hi : IntsAre vs ns) (hl : ns.length ≤ sizeLine) (hr : Room k callerA)
    (F : ∀ base : Heap, K.In base → base.Ns mainGlobals mg → FnOk P w K mg base CX k fa fd [x] sp) (hbind : ∀ (s : Shared) (u : Value), BindsTo s fd ⟨[u], []⟩ [(x, u)])
    (hsp : ∀ H : Hp, Only H → SqL K H a (ns.map V.int) → sp [.ref a] H (fun v _ => v = .bl true) fun _ _ _ => False)
    (hCX : ∀ H e s', CX [] H s₁ (fun _ _ _ => False) e s' → False) :
    codeAny (model P w) callerA (.call (.ref fa) ⟨[.ref a], []⟩) (fun r s' => r = .ok (.ret (.bool true)) ∧ OldK s₁.heap s'.heap ∧ s'.os = s₁.os ∧ AllBare s'.gens) s₁ := by
  have rv := vals_ints hi
  have lenV := hi.length
  -- from an abstract heap in which nothing but the script may be tracked
  have core : ∀ H : Hp, Only H → SqL K H a (ns.map V.int) → HOk P w H s₁.heap → (∀ b, H b ≠ none → b = a) → (H a ≠ none → K.lookup a = none) →
      codeAny (model P w) callerA (.call (.ref fa) ⟨[.ref a], []⟩) (fun r s' => r = .ok (.ret (.bool true)) ∧ OldK s₁.heap s'.heap ∧ s'.os = s₁.os ∧ AllBare s'.gens) s₁ := by
    intro H hO hS hok hA hK
    have base_of : ∀ {b : Addr} {o : Obj}, s₁.heap.get? b = some o → H b = none → (hidT s₁.heap H).get? b = some o := fun e n => hidT_get e n
    have noA : ∀ {b : Addr} {o : Obj} {es : Array DictEntry} {ep : Nat}, s₁.heap.get? b = some o → o.data = .dict es ep → H b = none := fun {b o es ep} e d => by
      cases q : H b with
      | none => rfl
      | some u =>
        have e' : b = a := hA b (by rw [q]; simp)
        subst e'
        rw [ha] at e; cases e
        have d' : Data.seq vs.toArray _ = Data.dict es ep := d
        cases d'
    have nsK : ∀ {b : Addr} {m : Str → Option Value}, s₁.heap.Ns b m → (hidT s₁.heap H).Ns b m := fun {b m} ⟨o, es, ep, e, d, r⟩ => ⟨o, es, ep, base_of e (noA e d), d, r⟩
    have hKb : K.In (hidT s₁.heap H) := fun b o e => base_of (KX b o e) (by
      cases q : H b with
      | none => rfl
      | some u =>
        have e' : b = a := hA b (by rw [q]; simp)
        subst e'
        rw [hK (by rw [q]; simp)] at e; cases e)
    have hM : Mod K mg (hidT s₁.heap H) := ⟨hKb, nsK hns, ⟨mb, nsK hb, hbb⟩, let ⟨mc, h1, h2⟩ := hlim; ⟨mc, nsK h1, h2⟩⟩
    have e0 : Env0 P w K mg (hidT s₁.heap H) callerA [] s₁ H := ⟨rfl, hM, fun b o e => of_hidT e, Nat.le_of_eq (hidT_size _ _), trivial, fun b hb => absurd (show b ∈ ([] : List Addr) from hb) (by simp), hok, .of_eq hg⟩
    refine codeAny_mono ((F _ hKb (nsK hns)).run callerA [] s₁ H ⟨[.ref a], []⟩ [.ref a] [.ref a] _ _ hr e0 (hbind s₁ (.ref a)) (.cons rfl .nil) (hsp H hO hS)) fun r s' h => ?_
    cases r with
    | error e => exact (hCX H e s' h).elim
    | ok fl =>
      cases fl with
      | next => exact False.elim h
      | brk => exact False.elim h
      | cont => exact False.elim h
      | ret u =>
        obtain ⟨v, H', os, bare, un, hok', r', q⟩ := h
        have q' : v = .bl true := q
        subst q'
        obtain rfl : u = Value.bool true := r'
        refine ⟨rfl, OldK.of_keep fun b o e => ?_, os, bare⟩
        cases q : H b with
        | none => exact un.keep b o e q (by intro z; exact absurd (show b ∈ ([] : List Addr) from z) (by simp)) (by simp)
        | some u =>
          rcases hO b with z | ⟨ob, xs, z⟩
          · rw [q] at z; cases z
          · have z2 := un.frzs b ob _ z
            obtain ⟨e1, _⟩ := hok b _ z
            obtain ⟨e2, _⟩ := hok' b _ z2
            rw [e] at e1; cases e1
            exact e2
  cases hk : K.lookup a with
  | some o =>
    -- the script is one of the module's own objects
    have e := KX a o hk
    rw [ha] at e
    cases e
    refine core (fun _ => none) (fun _ => .inl rfl) (.inr ⟨_, vs.toArray, _, hk, rfl, rfl, rfl, by rw [List.size_toArray, lenV]; exact hl, by simpa using rv⟩) (fun b u z => by have z' : (none : Option HO) = some u := z; cases z') (fun b z => absurd rfl z) fun z => absurd rfl z
  | none =>
    refine core (fun b => if b = a then some (.frz { cls := .type "list", data := .seq vs.toArray } (.lst (ns.map V.int))) else none) (fun b => ?_) (.inl (.inr ⟨{ cls := .type "list", data := .seq vs.toArray }, if_pos rfl⟩)) (fun b u z => ?_) (fun b z => ?_) fun _ => hk
    · by_cases hb : b = a
      · exact .inr ⟨_, _, if_pos hb⟩
      · exact .inl (if_neg hb)
    · by_cases hb : b = a
      · have z' := (if_pos hb).symm.trans z
        cases z'
        subst hb
        exact ⟨ha, by rw [List.length_map]; exact hl, vs, _, rv, ha⟩
      · have z' := (if_neg hb).symm.trans z
        cases z'
    · by_cases hb : b = a
      · exact hb
      · exact absurd (if_neg hb) z
end L2
namespace L2
open PySem PySem.Spec PyProof.Rows
theorem walk_of {l : PySem.W.OpenLaw} {n k : Nat} {q : Program} {loose : List Str} {XP : (Str → Option Value) → Heap → Prop} {YP : World → Heap → Prop} {d : DefRec} {K : Params → PySem.W.Frag} {CX : World → CXT} {sp : World → Sp} {x : Str}
    (hn : l.most = some n) (hn2 : n ≤ sizeLine) (hdf : d.params.defaults = []) (hr : Room k callerA)
    (hY : ∀ (w : World) (h : Heap), YP w h → (K w.params).In h)
    (F : ∀ (w : World) (mg : Str → Option Value) (fa : Addr) (h : Heap), (K w.params).In h → h.Ns mainGlobals mg → mg d.name = some (.ref fa) →
      ∃ fd : FuncData, (∀ (s : Shared) (u : Value), BindsTo s fd ⟨[u], []⟩ [(x, u)]) ∧
        ∀ base : Heap, (K w.params).In base → base.Ns mainGlobals mg → FnOk l.prog w (K w.params) mg base (CX w) k fa fd [x] (sp w))
    (hsp : ∀ (w : World) (H : Hp) (a : Addr) (ns : List Int), ns.length ≤ n → Only H → SqL (K w.params) H a (ns.map V.int) → sp w [.ref a] H (fun v _ => v = .bl true) fun _ _ _ => False)
    (hCX : ∀ (w : World) (H : Hp) (s : Shared) (e : Value) (s' : Shared), CX w [] H s (fun _ _ _ => False) e s' → False) :
    PySem.W.WalkO q loose XP YP l.row.toRowW d [] (fun f vs => PySem.call f vs) := by
  refine Att.attach_call hn hdf fun w s₀ s₁ mg mb fa o pm cd doc a vs ns G Y ho hd hcd hmg hobj hints hlen hg => ?_
  have KX := hY w _ Y
  obtain ⟨fd, hb, hF⟩ := F w mg fa _ KX G.T.g hmg
  exact law_call KX G.T.g G.T.b G.T.builtins G.T.nolimit hg hobj hints (Nat.le_trans hlen hn2) hr hF hb (fun H hO hS => hsp w H a ns hlen hO hS) fun H e s' => hCX w H s₁ e s'
end L2
namespace L2
open PySem PySem.Spec PyProof.Rows
def defArgs (s : Stmt) : Arguments := match s with
  | .FunctionDef _ a _ _ _ _ _ _ _ _ => a
  | _ => { posonlyargs := [], args := [], vararg := none, kwonlyargs := [], kw_defaults := [], kwarg := none, defaults := [] }
def defBody (s : Stmt) : List Stmt := match s with
  | .FunctionDef _ _ b _ _ _ _ _ _ _ => b
  | _ => []
def defScope (s : Stmt) : Scope := match s with
  | .FunctionDef _ _ _ _ _ _ sc _ _ _ => sc
  | _ => { kind := .function, names := [], isGenerator := false, isCoroutine := false }
abbrev CX0 : CXT := fun _ _ _ _ _ _ => False
abbrev E0 : XK := fun _ _ _ => False
theorem pass0 {X : Cx} : Passes CX0 X E0 := fun _ _ _ _ _ _ _ h => h.elim
structure Fun (K : PySem.W.Frag) (x qual : Str) (st : Stmt) (f : Addr) (fd : FuncData) : Prop where
  ex : ∃ (oc : Value) (od : Option Addr) (kV doc pm : Value) (an : Option Addr) (cdv ct : Value) (osl : Array (Option Value)),
    fd = PySem.W.fnOf x qual (defArgs st) (defBody st) (defScope st) .none kV doc pm an cdv ct ∧ K.lookup f = some ⟨oc, od, .func fd, osl⟩ ∧ PySem.W.codeIn K cdv qual = true
  kp : PySem.W.keepIn K (.ref f) = true
section
variable {P : Program} {w : World} {K : PySem.W.Frag} {mg : Str → Option Value} {base : Heap}
theorem Fun.ok {x qual : Str} {st : Stmt} {f : Addr} {fd : FuncData} {N ps : List Str} {k : Nat} {sp : Sp} (F : Fun K x qual st f fd) (S : FnScope N ps (defScope st)) (len : ∀ vs H Q E, sp vs H Q E → vs.length = ps.length)
    (hbody : ∀ (cdv : Value) (A : Around) (outer : List Env) (s : Shared) (H : Hp) (vs : List V) (Q : VK) (E : XK), Room k (A.deeper (envOfC qual (defScope st) s.heap.objs.size f cdv)) → sp vs H Q E →
      ∃ t, PSs (cxOf CX0 P w K mg base N qual (defScope st) f cdv A outer s H E).nox (defBody st) t ∧ t { nx := fun _ H' => Q .non H', rt := Q } (start N vs) H) : FnOk P w K mg base CX0 (k + 1) f fd ps sp := by
  obtain ⟨oc, od, kV, doc, pm, an, cdv, ct, osl, rfl, lk, hcd⟩ := F.ex
  refine fn_of lk hcd S len fun A outer s H vs Q E hr hsp => ?_
  obtain ⟨t, h, q⟩ := hbody cdv A outer s H vs Q E hr hsp
  exact ⟨t, h.nox, q⟩
theorem Fun.binds {x qual : Str} {st : Stmt} {f : Addr} {fd : FuncData} {ps : List Str} (F : Fun K x qual st f fd)
    (h : ∀ (kV doc pm : Value) (an : Option Addr) (cdv ct : Value) (us : List Value), us.length = ps.length → bindArgs (PySem.W.fnOf x qual (defArgs st) (defBody st) (defScope st) .none kV doc pm an cdv ct) ⟨us, []⟩ = pure (ps.zip us)) : Binds K fd ps [] := by
  obtain ⟨oc, od, kV, doc, pm, an, cdv, ct, osl, rfl, lk, hcd⟩ := F.ex
  exact .all (h kV doc pm an cdv ct)
theorem fun_mk {x qual : Str} {st : Stmt} {f : Addr} {oc : Value} {od an : Option Addr} {osl : Array (Option Value)} {kV doc pm cdv ct : Value} (l : K.lookup f = some ⟨oc, od, .func (PySem.W.fnOf x qual (defArgs st) (defBody st) (defScope st) .none kV doc pm an cdv ct), osl⟩)
    (c : PySem.W.codeIn K cdv qual = true) (k : PySem.W.keepIn K (.ref f) = true) : Fun K x qual st f (PySem.W.fnOf x qual (defArgs st) (defBody st) (defScope st) .none kV doc pm an cdv ct) := ⟨⟨oc, od, kV, doc, pm, an, cdv, ct, osl, rfl, l, c⟩, k⟩
end
section
variable {X : Cx}
theorem pv (i : Nat) {x : Str} {pos : Pos} (hN : X.N[i]? = some x := by rfl) (hv : Vis X.env.scope x := by first | exact Or.inl rfl | exact Or.inr (Or.inl rfl) | exact Or.inr (Or.inr rfl)) (hd : (x == ("__debug__" : Str)) = false := by decide)
    (hcd : (x == ("__classdict__" : Str)) = false := by decide) : PE X (.Name x pos) (tVar i) := pe_var hN hv hd hcd
end
theorem iteF {A B : Prop} (h : B) : if false = true then A else B := by
  rw [if_neg Bool.false_ne_true]
  exact h
theorem iteT {A B : Prop} (h : A) : if true = true then A else B := by
  rw [if_pos rfl]
  exact h
theorem ite2 {c A B : Prop} [Decidable c] (h1 : c → A) (h2 : ¬ c → B) : if c then A else B := by
  by_cases h : c
  · rw [if_pos h]
    exact h1 h
  · rw [if_neg h]
    exact h2 h
def Same (H H' : Hp) : Prop := ∀ b o, H b = some o → H' b = some o
theorem Same.refl (H : Hp) : Same H H := fun _ _ h => h
theorem Same.trans {H H1 H2 : Hp} (a : Same H H1) (b : Same H1 H2) : Same H H2 := fun c o h => b c o (a c o h)
theorem Same.free {H H' : Hp} (e : Same H H') {l : Addr} (h : H' l = Option.none) : H l = Option.none := by
  cases q : H l with
  | none => rfl
  | some o =>
    rw [e l o q] at h
    cases h
theorem Same.seq {K : PySem.W.Frag} {H H' : Hp} {a : Addr} {xs : List V} (e : Same H H') (h : SqL K H a xs) : SqL K H' a xs := by
  rcases h with (h | ⟨o, h⟩) | h
  · exact .inl (.inl (e _ _ h))
  · exact .inl (.inr ⟨o, e _ _ h⟩)
  · exact .inr h
end L2
namespace L2
open PySem
theorem closure_aux {env : Env} : ∀ (names : List (Str × NameKind)) (init : List (Str × Addr)), (∀ n k, (n, k) ∈ names → k = .free → ∃ c, env.cells.lookup n = some c) →
    (∀ n c, init.lookup n = some c → env.cells.lookup n = some c) →
    ∃ cl, (forIn names init fun (x : Str × NameKind) (cs : List (Str × Addr)) => (match x with
      | (name, kind) => if (kind == NameKind.free) = true then (do let a ← cellOf env name; pure (ForInStep.yield ((name, a) :: cs))) else pure (ForInStep.yield cs) : Sem (ForInStep (List (Str × Addr))))) = (pure cl : Sem (List (Str × Addr))) ∧
      (∀ n c, cl.lookup n = some c → env.cells.lookup n = some c) ∧ (∀ n, (n, NameKind.free) ∈ names ∨ (∃ c, init.lookup n = some c) → ∃ c, cl.lookup n = some c)
  | [], init, _, h1 => ⟨init, rfl, h1, fun n h => by rcases h with h | h; cases h; exact h⟩
  | (nm, k) :: r, init, h0, h1 => by
    by_cases hk : k = .free
    · obtain ⟨c, hc⟩ := h0 nm k List.mem_cons_self hk
      have h1' : ∀ n c', ((nm, c) :: init).lookup n = some c' → env.cells.lookup n = some c' := fun n c' e => by
        rw [List.lookup_cons] at e
        split at e
        · rename_i he
          have : n = nm := by simpa using he
          subst this; cases e; exact hc
        · exact h1 n c' e
      obtain ⟨cl, e1, e2, e3⟩ := closure_aux r ((nm, c) :: init) (fun n k' hm => h0 n k' (List.mem_cons_of_mem _ hm)) h1'
      refine ⟨cl, ?_, e2, fun n hn => e3 n ?_⟩
      · rw [List.forIn_cons]
        subst hk
        have : cellOf env nm = pure c := by unfold cellOf; rw [hc]
        simp only [this]
        exact e1
      · rcases hn with hn | ⟨c', hn⟩
        · rcases List.mem_cons.mp hn with e | e
          · cases e
            exact .inr ⟨c, by simp [List.lookup_cons]⟩
          · exact .inl e
        · right
          rw [List.lookup_cons]
          split
          · exact ⟨_, rfl⟩
          · exact ⟨c', hn⟩
    · obtain ⟨cl, e1, e2, e3⟩ := closure_aux r init (fun n k' hm => h0 n k' (List.mem_cons_of_mem _ hm)) h1
      refine ⟨cl, ?_, e2, fun n hn => e3 n ?_⟩
      · rw [List.forIn_cons]
        have : (k == NameKind.free) = false := by simpa using hk
        simp only [this]
        exact e1
      · rcases hn with hn | hn
        · rcases List.mem_cons.mp hn with e | e
          · cases e; exact absurd rfl hk
          · exact .inl e
        · exact .inr hn
theorem closure_some {scope : Scope} {env : Env} (h : ∀ n, (n, NameKind.free) ∈ scope.names → ∃ c, env.cells.lookup n = some c) :
    ∃ cl, closureFor scope env = pure cl ∧ (∀ n c, cl.lookup n = some c → env.cells.lookup n = some c) ∧ (∀ n, (n, NameKind.free) ∈ scope.names → ∃ c, cl.lookup n = some c) := by
  obtain ⟨cl, e1, e2, e3⟩ := closure_aux (env := env) scope.names [] (fun n k hm hk => h n (hk ▸ hm)) (fun n c e => by cases e)
  refine ⟨cl, ?_, e2, fun n hn => e3 n (.inl hn)⟩
  have e : closureFor scope env = ((forIn scope.names ([] : List (Str × Addr)) fun (x : Str × NameKind) (cs : List (Str × Addr)) => (match x with
      | (name, kind) => if (kind == NameKind.free) = true then (do let a ← cellOf env name; pure (ForInStep.yield ((name, a) :: cs))) else pure (ForInStep.yield cs) : Sem (ForInStep (List (Str × Addr))))) >>= fun r => pure r) := rfl
  rw [e, e1]
  rfl
end L2
namespace L2
open PySem PySem.Spec PyProof.Rows
section
variable {X : Cx} {pins : List (Addr × Obj)} {σ : St} {H : Hp} {s : Shared}
theorem Inv.track {p : Addr} {o : HO} (I : Inv X pins σ H s) (f : FpOk X pins H p) (new : ObjOk X.prog X.w (upd H p o) s.heap p o) : Inv X pins σ (upd H p o) s := by
  obtain ⟨f0, f1, f2, f3, f4, f5⟩ := f
  have nit : ∀ b u, H b = some u → b ≠ p := fun b u e z => by rw [z, f0] at e; cases e
  refine I.step (h' := s.heap) (g' := s.gens) (d' := s.drawn) (t' := s.toks) (ch := [p]) (fun b hb => ?_) (fun b o _ _ _ e _ => e) (fun b o _ _ _ e _ => ⟨o.slots, e⟩)
    (fun b o hc e n => by rw [upd_ne (fun z => hc (by simp [z]))]; exact n) (fun b o _ e => ⟨o, e⟩) (fun b xs e => by rw [upd_ne (nit b _ e)]; exact e) (fun b o u e => by rw [upd_ne (nit b _ e)]; exact e)
    (fun b ps e => ⟨#[], by rw [upd_ne (nit b _ e), e]; simp⟩) (fun m hm => hm) (fun b u e => ?_) I.bare
  · have e : b = p := by simpa using hb
    subst e
    exact ⟨f3, f1, f4, f5⟩
  · by_cases hb : b = p
    · subst hb; rw [upd_same] at e; cases e; exact new
    · rw [upd_ne hb] at e
      exact (I.hok b u e).stay (fun c v _ q => q) (fun c q => by rw [upd_ne (nit c _ q)]; exact q) fun c xs q => by rw [upd_ne (nit c _ q)]; exact q
end
section
variable {prog : Program} {w : World} {A : Around} {R : Result → Shared → Prop} {s : Shared}
theorem compLoop_any {elt target iter : Expr} {ifs : List Expr} {scope : Scope} {pos : Pos} {it acc : Value} {env : Env} (I : Nat → Shared → Prop)
    (turn : ∀ n s, I n s → wpAny (model prog w) A (pyNext it) (fun r s₁ => match r with
      | none => R (.ok .next) s₁
      | some v => wpAny (model prog w) A (letOwnedTupleGo target it v) (fun _ s₁' => wpAny (model prog w) A (assign target env v) (fun _ s₂ =>
          wpAny (model prog w) A (forIn ifs true fun c r => if r = true then do let ok ← isTrue c env (eval c env); pure (ForInStep.yield ok) else pure (ForInStep.yield r)) (fun ok s₃ =>
            if ok = true then wpAny (model prog w) A (eval elt env) (fun x s₄ =>
              wpAny (model prog w) A (call (.builtin "list.append") [acc, x]) (fun _ s₅ => ∃ m, m < n ∧ I m s₅) (fun _ _ => False) s₄) (fun _ _ => False) s₃
            else ∃ m, m < n ∧ I m s₃) (fun _ _ => False) s₂) (fun _ _ => False) s₁') (fun _ _ => False) s₁) (fun _ _ => False) s)
    (n : Nat) (h : I n s) : codeAny (model prog w) A (.compLoop (.ListComp elt [⟨target, iter, ifs, 0⟩] scope pos) 0 it acc env) R s := by
  refine codeAny_loop rfl I (fun n s hI => ?_) n h
  show wpAny _ A ((compTurn (.ListComp elt [⟨target, iter, ifs, 0⟩] scope pos) 0 it acc env).onRaise (fun x => do noteFrame x env; theTreesLotGoes x)) _ _ s
  refine wpAny_noted (wpAny_noRaise ?_)
  rw [compTurn_list]
  refine wpAny_bind (wpAny_standAt (wpAny_bind (wpAny_mono (turn n s hI) (fun r s₁ h₁ => ?_) fun _ _ h' => h')))
  cases r with
  | none => exact wpAny_pure h₁
  | some v =>
    refine wpAny_bind (wpAny_mono h₁ (fun _ s₁' h₁' => ?_) fun _ _ h' => h')
    refine wpAny_bind (wpAny_mono h₁' (fun _ s₂ h₂ => wpAny_bind (wpAny_mono h₂ (fun ok s₃ h₃ => ?_) fun _ _ h' => h')) fun _ _ h' => h')
    cases ok with
    | false => exact wpAny_pure ⟨rfl, h₃⟩
    | true =>
      exact wpAny_bind (wpAny_bind (wpAny_mono h₃ (fun x s₄ h₄ => wpAny_bind (wpAny_mono h₄ (fun _ s₅ h₅ => wpAny_pure (wpAny_pure ⟨rfl, h₅⟩)) fun _ _ h' => h')) fun _ _ h' => h'))
end
def blk (X : Cx) (N : List Str) (scope : Scope) (cl : List (Str × Addr)) (C : Addr) (s : Shared) (H : Hp) (fp : List Addr) : Cx :=
  { X with N := N, s₀ := s, H₀ := H, env := compEnvC scope cl C X.env, outer := X.stack, ex := fp, fn := fun _ => false, pn := [], xe := fun _ _ => False }
def PTs (X : Cx) (ifs : List Expr) (t : TT) : Prop :=
  ∀ (pins : List (Addr × Obj)) (s : Shared) (σ : St) (H : Hp) (Q : Bool → Hp → Prop), Inv X pins σ H s → t σ H Q →
    wpAny (model X.prog X.w) X.A (forIn ifs true fun c r => if r = true then do let ok ← isTrue c X.env (eval c X.env); pure (ForInStep.yield ok) else pure (ForInStep.yield r)) (TP X pins σ Q) X.xe s
def tYes : TT := fun _ H Q => Q true H
theorem pts_nil {X : Cx} : PTs X [] tYes := fun _ _ _ H _ I h => wpAny_tests_nil ⟨H, I, h⟩
theorem pts_one {X : Cx} {c : Expr} {t : TT} (h : PT X c t) : PTs X [c] t := fun pins s σ H Q I hw => wpAny_tests_one (h pins s σ H Q I hw)
def capSt (nt : Nat) (caps : List Nat) (σ : St) : St := List.replicate nt none ++ caps.map fun j => (σ[j]?).join
def GKeep (nt : Nat) (g : TG) : Prop := ∀ (v : V) (cs : St) (H : Hp) (Q : St → Hp → Prop), g v (List.replicate nt none ++ cs) H Q →
  g v (List.replicate nt none ++ cs) H fun σ' H' => (∀ (j : Nat) (u : V), (List.replicate nt none ++ cs)[j]? = some (some u) → σ'[j]? = some (some u)) ∧ Q σ' H'
theorem gk_name : GKeep 1 (gName 0) := by
  intro v cs H Q h
  refine ⟨fun j u e => ?_, h⟩
  cases j with
  | zero => simp at e
  | succ j => simpa using e
def tComp (nt : Nat) (caps : List Nat) (wi : TI) (g : TG) (tt : TT) (te : TE) : TE := fun σ H Q => wi σ H fun J H1 =>
  ∃ W : Nat → Nat → List V → Hp → Prop, (∃ m, W 0 m [] H1) ∧ ∀ i m ys H2, W i m ys H2 →
    (J.stop i H2 ∧ ys.length ≤ sizeLine ∧ ∀ p, H2 p = none → Q (.ref p) (upd H2 p (.lst ys))) ∨
    (J.go i H2 ∧ ys.length < sizeLine ∧ ∀ x H3, J.yld i H2 x H3 → g x (capSt nt caps σ) H3 fun σ4 H4 => tt σ4 H4 fun b H5 =>
      if b = true then te σ4 H5 fun y H6 => ∃ m', m' < m ∧ W (i + 1) m' (ys ++ [y]) H6 else ∃ m', m' < m ∧ W (i + 1) m' ys H5)
structure CompOk (X : Cx) (N : List Str) (nt : Nat) (caps : List Nat) (scope : Scope) : Prop where
  cell : ∀ y ∈ scope.names, y.2 ≠ .cell
  kind : scope.kind = .function
  names : ∀ x ∈ scope.names, x.2 = .local → scope.names.lookup x.1 = some .local
  free : ∀ n, (n, NameKind.free) ∈ scope.names → X.env.kindOf n = some .cell ∨ X.env.kindOf n = some .free
  cap : ∀ (j i : Nat), caps[j]? = some i → ∃ x, X.N[i]? = some x ∧ N[nt + j]? = some x ∧ (x, NameKind.free) ∈ scope.names ∧ scope.names.lookup x = some .free
  len : N.length = nt + caps.length
theorem lookup_keyed {α : Type} (f : Str × α → Str × α) (hf : ∀ p, (f p).1 = p.1) : ∀ (l : List (Str × α)) (x : Str), (l.map f).lookup x = (l.lookup x).map fun k => (f (x, k)).2
  | [], _ => rfl
  | (n, k) :: r, x => by
    have ih := lookup_keyed f hf r x
    have e : f (n, k) = (n, (f (n, k)).2) := Prod.ext (hf (n, k)) rfl
    rw [List.map_cons, e, List.lookup_cons, List.lookup_cons]
    split
    · rename_i h
      have : x = n := by simpa using h
      subst this
      rfl
    · exact ih
theorem lookup_mem {α : Type} : ∀ {l : List (Str × α)} {x : Str} {k : α}, l.lookup x = some k → (x, k) ∈ l
  | [], _, _, h => by cases h
  | (n, q) :: r, x, k, h => by
    rw [List.lookup_cons] at h
    split at h
    · rename_i e
      have : x = n := by simpa using e
      subst this
      cases h
      exact List.mem_cons_self
    · exact List.mem_cons_of_mem _ (lookup_mem h)
theorem relabel_kind {scope : Scope} {env : Env} {x : Str} (hc : ∀ y ∈ scope.names, y.2 ≠ .cell) {k : NameKind} (h : (relabel scope env).names.lookup x = some k) (hk : k = .cell ∨ k = .free) : (x, NameKind.free) ∈ scope.names := by
  unfold relabel at h
  dsimp only at h
  rw [lookup_keyed _ (fun p => by obtain ⟨n, k⟩ := p; dsimp only; split <;> rfl)] at h
  cases hl : scope.names.lookup x with
  | none => rw [hl] at h; cases h
  | some q =>
    rw [hl] at h
    have m := lookup_mem hl
    by_cases hq : q = .free
    · rw [← hq]; exact m
    · exfalso
      have hb : (q == NameKind.free) = false := by simpa using hq
      simp only [Option.map_some, hb, Bool.false_and, Bool.false_eq_true, if_false, Option.some.injEq] at h
      rcases hk with z | z
      · exact hc _ m (h.trans z)
      · exact hq (h.trans z)
theorem relabel_free {scope : Scope} {env : Env} {x : Str} (h : scope.names.lookup x = some .free) : (relabel scope env).names.lookup x ≠ some .local := by
  intro q
  unfold relabel at q
  dsimp only at q
  rw [lookup_keyed _ (fun p => by obtain ⟨n, k⟩ := p; dsimp only; split <;> rfl), h] at q
  dsimp only [Option.map] at q
  split at q <;> cases q
def compOkB (sc : Scope) (NX N : List Str) (nt : Nat) (caps : List Nat) (scope : Scope) : Bool :=
  scope.names.all (fun y => !(y.2 == .cell)) && scope.kind == .function && scope.names.all (fun y => !(y.2 == .local) || scope.names.lookup y.1 == some .local)
  && scope.names.all (fun y => !(y.2 == .free) || sc.names.lookup y.1 == some .cell || sc.names.lookup y.1 == some .free)
  && (List.range caps.length).all (fun j => match NX[caps.getD j 0]? with
    | some x => N[nt + j]? == some x && scope.names.any (fun y => y.1 == x && y.2 == .free) && scope.names.lookup x == some .free
    | none => false)
  && N.length == nt + caps.length
theorem comp_ok {X : Cx} {N : List Str} {nt : Nat} {caps : List Nat} {scope : Scope} (h : compOkB X.env.scope X.N N nt caps scope = true := by rfl) : CompOk X N nt caps scope := by
  unfold compOkB at h
  simp only [Bool.and_eq_true, List.all_eq_true, Bool.or_eq_true, Bool.not_eq_true', beq_iff_eq, beq_eq_false_iff_ne, ne_eq] at h
  obtain ⟨⟨⟨⟨⟨h1, h2⟩, h3⟩, h4⟩, h5⟩, h6⟩ := h
  refine ⟨fun y hy => h1 y hy, h2, fun y hy e => (h3 y hy).resolve_left fun z => z e, fun n hn => ?_, fun j i e => ?_, h6⟩
  · rcases h4 (n, .free) hn with (z | z) | z
    · exact absurd rfl z
    · exact .inl z
    · exact .inr z
  · obtain ⟨hj, e'⟩ := List.getElem?_eq_some_iff.mp e
    have q := h5 j (List.mem_range.mpr hj)
    have eg : caps.getD j 0 = i := by rw [List.getD_eq_getElem?_getD, e]; rfl
    rw [eg] at q
    cases hx : X.N[i]? with
    | none => rw [hx] at q; cases q
    | some x =>
      rw [hx] at q
      simp only [Bool.and_eq_true, beq_iff_eq, List.any_eq_true] at q
      obtain ⟨⟨q1, y, hy, e1, e2⟩, q3⟩ := q
      refine ⟨x, rfl, q1, ?_, q3⟩
      obtain ⟨n, k⟩ := y
      cases e1; cases e2
      exact hy
section
variable {X : Cx} {tg iter elt : Expr} {ifs : List Expr} {scope : Scope} {pos : Pos} {N : List Str} {nt : Nat} {caps : List Nat} {wi : TI} {g : TG} {tt : TT} {te : TE} {cl : List (Str × Addr)}
theorem comp_run {pins : List (Addr × Obj)} {σ : St} {H : Hp} {s : Shared} {it : Addr} {fp : List Addr} {tn : Nat → Heap → Prop} {J : It} {RR : Value → Addr → Result → Shared → Prop} {E : Value → Shared → Prop}
    (ok : CompOk X N nt caps scope) (hc : X.calm = true) (h1 : ∀ n c, cl.lookup n = some c → X.env.cells.lookup n = some c) (h2 : ∀ n, (n, NameKind.free) ∈ scope.names → ∃ c, cl.lookup n = some c)
    (hg : ∀ cl C s H fp, PG (blk X N scope cl C s H fp) tg g) (hgk : GKeep nt g) (ht : ∀ cl C s H fp, PTs (blk X N scope cl C s H fp) ifs tt) (he : ∀ cl C s H fp, PE (blk X N scope cl C s H fp) elt te)
    (I : Inv X pins σ H s) (T : Turn X.prog X.w X.K tg J fp it tn) (st : tn 0 s.heap) (hf : ∀ b ∈ fp, FpOk X pins H b)
    (W : Nat → Nat → List V → Hp → Prop) (Z : List V → Hp → Prop) (m0 : Nat) (w0 : W 0 m0 [] H)
    (turn : ∀ i m ys H2, W i m ys H2 → (J.stop i H2 ∧ Z ys H2) ∨
      (J.go i H2 ∧ ys.length < sizeLine ∧ ∀ x H3, J.yld i H2 x H3 → g x (capSt nt caps σ) H3 fun σ4 H4 => tt σ4 H4 fun b H5 =>
        if b = true then te σ4 H5 fun y H6 => ∃ m', m' < m ∧ W (i + 1) m' (ys ++ [y]) H6 else ∃ m', m' < m ∧ W (i + 1) m' ys H5))
    (hRR : ∀ (C : Addr) (s' : Shared) (ys : List V) (its : List Value) (n : Nat) (H' : Hp), s.heap.objs.size < C → Vals ys its → Inv (blk X N scope cl C s H fp) [] (capSt nt caps σ) H' s' →
      s'.heap.get? s.heap.objs.size = some { cls := .type "list", data := .seq its.toArray n } → H' s.heap.objs.size = none → Z ys H' → RR (.ref s.heap.objs.size) C (.ok .next) s') :
    wpAny (model X.prog X.w) X.A (newList []) (fun acc s₃ => wpAny (model X.prog X.w) X.A (newFunctionEnv scope X.env.globals cl [] X.env.qual none .none (some X.env)) (fun cenv s₄ =>
      codeAny (model X.prog X.w) X.A (.compStart (.ListComp elt [⟨tg, iter, ifs, 0⟩] scope pos) 0 (.ref it) acc { cenv with scope := relabel scope X.env }) (RR acc cenv.locals) s₄) E s₃) E s := by
  refine wpAny_newObj_type (wpAny_newFunctionEnv ok.cell (by intro y hy; simp at hy) (fun h₁ hns₁ hsb₁ => ?_) ok.kind)
  dsimp only at hns₁ hsb₁ ⊢
  generalize hG : s.heap.push { cls := .type "list", dict := none, data := .seq ([] : List Value).toArray } = G at hns₁ hsb₁ ⊢
  have hC : G.objs.size = s.heap.objs.size + 1 := by rw [← hG, Heap.size_push]
  have hDC : s.heap.objs.size ≠ G.objs.size := by rw [hC]; exact Nat.ne_of_lt (Nat.lt_succ_self _)
  have hlt : s.heap.objs.size < G.objs.size := by rw [hC]; exact Nat.lt_succ_self _
  have old : ∀ b o, s.heap.get? b = some o → h₁.get? b = some o := fun b o e =>
    hsb₁.extBut b o (Nat.ne_of_lt (Nat.lt_trans (Heap.lt_size e) hlt)) (Heap.get?_push_of_some _ (hG ▸ Heap.get?_push_of_some _ e))
  have hacc : h₁.get? s.heap.objs.size = some { cls := .type "list", data := .seq ([] : List Value).toArray 0 } := hsb₁.extBut _ _ hDC (Heap.get?_push_of_some _ (hG ▸ Heap.get?_push_size _ rfl))
  have fpD : ∀ b ∈ fp, b < s.heap.objs.size := fun b hb => by
    obtain ⟨o, e, _⟩ := T.obj _ _ st b hb
    exact Heap.lt_size e
  have celt : ∀ n c, cl.lookup n = some c → c < s.heap.objs.size := fun n c e => by
    obtain ⟨v, q⟩ := I.cell n c (h1 n c e)
    exact q.lt
  have YOk : (blk X N scope cl G.objs.size s H fp).Ok := by
    refine ⟨I.ok.mod, ok.kind, I.ok.glob, I.ok.blt, Nat.le_of_lt hlt, fun x y c e e' => I.ok.inj x y c (h1 x c e) (h1 y c e'), fun x hx => ?_, fun x c hx _ => (nomatch hx), I.ok.hd, I.ok.frames, .inl rfl,
      fun b hb => ⟨Nat.ne_of_lt (Nat.lt_trans (fpD b hb) hlt), fun x c e z => ?_⟩, fun b o e => I.bs b o e, Nat.le_trans I.ok.bsz I.sz, fun b o e hb => ?_, fun b hb hz => ?_, I.stack, I.stkFree⟩
    · rcases hx with hx | hx
      · exact h2 x (relabel_kind ok.cell hx (.inl rfl))
      · exact h2 x (relabel_kind ok.cell hx (.inr rfl))
    · exact (hf b hb).2.2.2.2.1 x c (h1 x c e) z
    · rcases (hf b hb).2.2.2.1 with z | z
      · exact I.ok.noex b o e z
      · exact absurd (Nat.lt_of_lt_of_le (Heap.lt_size e) (Nat.le_trans I.ok.bsz z)) (Nat.lt_irrefl _)
    · rcases List.mem_cons.mp (I.stkSub b hz) with z | z
      · exact (hf b hb).2.1 z
      · exact (hf b hb).2.2.1 z
  have lenb : (capSt nt caps σ).length = N.length := by rw [ok.len]; simp [capSt]
  have IY : Inv (blk X N scope cl G.objs.size s H fp) [] (capSt nt caps σ) H { s with heap := h₁, toks := s.toks + ([] : List (Str × Value)).length } := by
    refine ⟨YOk, rfl, I.bare, Un.kept old, ⟨_, hns₁, fun i x v e1 e2 e3 => ?_⟩, fun x c e => ?_, I.hok.fresh (Nat.le_of_lt hlt), fun x c e => I.freeC x c (h1 x c e), fun p hp => (nomatch hp), I.hok.kept old, lenb⟩
    · have hi : nt ≤ i := by
        rcases Nat.lt_or_ge i nt with z | z
        · exfalso
          unfold capSt at e2
          rw [List.getElem?_append_left (by simpa using z), List.getElem?_replicate] at e2
          split at e2 <;> cases e2
        · exact z
      unfold capSt at e2
      rw [List.getElem?_append_right (by simpa using hi), List.length_replicate, List.getElem?_map] at e2
      cases ej : caps[i - nt]? with
      | none => rw [ej] at e2; cases e2
      | some j =>
        rw [ej] at e2
        have e2' : (σ[j]?).join = some v := by simpa using e2
        have e2'' : σ[j]? = some (some v) := by
          cases q : σ[j]? with
          | none => rw [q] at e2'; cases e2'
          | some z => rw [q] at e2'; simp at e2'; rw [e2']
        obtain ⟨y, y1, y2, y3, y4⟩ := ok.cap _ _ ej
        have : nt + (i - nt) = i := by omega
        rw [this] at y2
        have e1' : N[i]? = some x := e1
        rw [e1'] at y2
        cases y2
        obtain ⟨m, hn, hl⟩ := I.loc
        have kx := ok.free x y3
        have vx : Vis X.env.scope x := by
          rcases kx with z | z
          · exact .inr (.inl z)
          · exact .inr (.inr z)
        obtain ⟨u, r, l⟩ := hl j x v y1 e2'' vx
        refine ⟨u, r, .inr ⟨?_, ?_⟩⟩
        · rcases e3 with z | z | z
          · exact absurd z (relabel_free y4)
          · exact .inl z
          · exact .inr z
        · obtain ⟨c, hcl⟩ := h2 x y3
          refine ⟨c, hcl, ?_⟩
          rcases l with ⟨k, _⟩ | ⟨_, c', hc', o, ho, hd⟩
          · rcases kx with z | z <;> (rw [z] at k; cases k)
          · have : c = c' := Option.some.inj ((h1 x c hcl).symm.trans hc')
            subst this
            exact ⟨o, old c o ho, hd⟩
    · obtain ⟨v, o, ho, hd⟩ := I.cell x c (h1 x c e)
      exact ⟨v, o, old c o ho, hd⟩
  -- the loop
  have stat : ∀ {pn : List (Addr × Obj)} {H' : Hp}, (∀ b ∈ fp, H' b = none) → (∀ p ∈ pn, s.heap.objs.size ≤ p.1) → ∀ b ∈ fp, FpOk (blk X N scope cl G.objs.size s H fp) pn H' b := fun {pn H'} hn hpn b hb =>
    ⟨hn b hb, Nat.ne_of_lt (Nat.lt_trans (fpD b hb) hlt), fun hz => (YOk.exfs b hb hz).elim, .inl hb, fun x c e z => (hf b hb).2.2.2.2.1 x c (h1 x c e) z, fun p hp z => by
      have hp' : p ∈ pn := by simpa [blk] using hp
      have := hpn p hp'
      rw [z] at this
      exact absurd (Nat.lt_of_lt_of_le (fpD b hb) this) (Nat.lt_irrefl _)⟩
  have hDf : s.heap.objs.size ∉ fp := fun hm => Nat.lt_irrefl _ (fpD _ hm)
  have hDs : s.heap.objs.size ∉ frs X.stack := fun hm => by
    rcases List.mem_cons.mp (I.stkSub _ hm) with z | z
    · exact absurd I.lt (by rw [← z]; exact Nat.lt_irrefl _)
    · exact I.nofs (Nat.le_refl _) z
  have loop : ∀ s₃ : Shared, s₃ = { s with heap := h₁, toks := s.toks + ([] : List (Str × Value)).length } →
      codeAny (model X.prog X.w) X.A (.compLoop (.ListComp elt [⟨tg, iter, ifs, 0⟩] scope pos) 0 (.ref it) (.ref s.heap.objs.size) (compEnvC scope cl G.objs.size X.env)) (RR (.ref s.heap.objs.size) G.objs.size) s₃ := by
    rintro s₃ rfl
    refine compLoop_any (fun n s' => ∃ i ys its k H', Inv (blk X N scope cl G.objs.size s H fp) [] (capSt nt caps σ) H' s' ∧ tn i s'.heap ∧ (∀ b ∈ fp, H' b = none) ∧ Vals ys its ∧
      s'.heap.get? s.heap.objs.size = some { cls := .type "list", data := .seq its.toArray k } ∧ H' s.heap.objs.size = none ∧ ys.length ≤ sizeLine ∧ W i n ys H') ?_ m0
      ⟨0, [], [], 0, H, IY, T.keep _ _ _ st fun b hb o e => old b o e, fun b hb => (hf b hb).1, .nil, hacc, I.hok.fresh (Nat.le_refl _), Nat.zero_le _, w0⟩
    rintro n s3 ⟨i, ys, its, k, H3, I3, st3, fr3, v3, a3, n3, z3, w3⟩
    have I3p : Inv (blk X N scope cl G.objs.size s H fp) [(s.heap.objs.size, { cls := .type "list", data := .seq its.toArray k })] (capSt nt caps σ) H3 s3 := I3.pins_of fun p hp => by
      have e : p = (s.heap.objs.size, { cls := .type "list", data := .seq its.toArray k }) := by simpa using hp
      subst e
      exact ⟨a3, n3, hDC, hDs, fun v z => by cases z⟩
    have pn3 : ∀ p ∈ [(s.heap.objs.size, ({ cls := .type "list", data := .seq its.toArray k } : Obj))], s.heap.objs.size ≤ p.1 := fun p hp => by
      have e : p = (s.heap.objs.size, { cls := .type "list", data := .seq its.toArray k }) := by simpa using hp
      subst e
      exact Nat.le_refl _
    rcases turn i n ys H3 w3 with ⟨stop, zz⟩ | ⟨go, hlen, step⟩
    · refine thn (T.done (blk X N scope cl G.objs.size s H fp) rfl rfl rfl hc i _ s3 _ H3 _ I3p (stat fr3 pn3) st3 stop) fun r s4 ⟨hr, I4⟩ => ?_
      subst hr
      have a4 := I4.pin (s.heap.objs.size, { cls := .type "list", data := .seq its.toArray k }) (List.mem_append_right _ (by simp))
      exact hRR _ s4 ys its k H3 hlt v3 (I4.pins_of fun _ hp => nomatch hp) a4.1 n3 zz
    · refine thn (T.item (blk X N scope cl G.objs.size s H fp) rfl rfl rfl hc i _ s3 _ H3 _ I3p (stat fr3 pn3) st3 go) fun r s4 ⟨u, hr, h4⟩ => ?_
      subst hr
      refine thn h4 fun _ s5 ⟨x, H5, I5, r5, y5, st5, fr5⟩ => ?_
      have I5' := I5.pinned (stat fr5 pn3) (T.obj _ _ st5)
      refine thn (hg _ _ _ _ _ _ s5 _ H5 x u _ I5' r5 (hgk _ _ _ _ (step x H5 y5))) fun _ s6 ⟨σ6, H6, I6, kp6, q6⟩ => ?_
      refine thn (ht _ _ _ _ _ _ s6 σ6 H6 _ I6 q6) fun b s7 ⟨H7, I7, q7⟩ => ?_
      have back : ∀ {H8 : Hp} {s8 : Shared}, Inv (blk X N scope cl G.objs.size s H fp) ([(s.heap.objs.size, ({ cls := .type "list", data := .seq its.toArray k } : Obj))] ++ pinsAt fp s5.heap) σ6 H8 s8 →
          Inv (blk X N scope cl G.objs.size s H fp) [] (capSt nt caps σ) H8 s8 ∧ tn (i + 1) s8.heap ∧ (∀ b ∈ fp, H8 b = none) ∧ s8.heap.get? s.heap.objs.size = some { cls := .type "list", data := .seq its.toArray k } ∧ H8 s.heap.objs.size = none := fun {H8 s8} I8 => by
        have a8 := I8.pin (s.heap.objs.size, { cls := .type "list", data := .seq its.toArray k }) (List.mem_append_right _ (List.mem_append_left _ (by simp)))
        refine ⟨(I8.pins_of (pins' := []) fun _ hp => absurd hp (by simp)).weak (by rw [lenb, I8.len]; rfl) kp6, T.keep _ _ _ st5 fun b hb o e => (I8.pin (b, o) (List.mem_append_right _ (List.mem_append_right _ (mem_pinsAt hb e)))).1, fun b hb => ?_, a8.1, a8.2.1⟩
        obtain ⟨o, e, d⟩ := T.obj _ _ st5 b hb
        exact (I8.pin (b, o) (List.mem_append_right _ (List.mem_append_right _ (mem_pinsAt hb e)))).2.1
      cases b with
      | false =>
        rw [if_neg (by intro z; cases z)] at q7 ⊢
        obtain ⟨m', hm, w7⟩ := q7
        obtain ⟨b1, b2, b3, b4, b5⟩ := back I7
        exact ⟨m', hm, i + 1, ys, its, k, H7, b1, b2, b3, v3, b4, b5, z3, w7⟩
      | true =>
        rw [if_pos rfl] at q7 ⊢
        refine thn (he _ _ _ _ _ _ s7 σ6 H7 _ I7 q7) fun u8 s8 ⟨y, H8, I8, r8, m', hm, w8⟩ => ?_
        obtain ⟨b1, b2, b3, b4, b5⟩ := back I8
        have hl := v3.length
        refine call_meets F.slot_list_append ⟨_, b4, rfl⟩ F.entry_list_append (F.args_list_append_2 _ _) (PySem.list_append s.heap.objs.size its.toArray k u8 (by rw [List.size_toArray]; omega)) ⟨b4, ?_⟩
        have q := PySem.IsL.update (show PySem.IsL s8.heap s.heap.objs.size its.toArray k from b4) (fun x => x.push u8)
        have eq : its.toArray.push u8 = (its ++ [u8]).toArray := by simp
        rw [eq] at q
        have keep : ∀ b' o, b' ≠ s.heap.objs.size → s8.heap.get? b' = some o → (s8.heap.update s.heap.objs.size (Obj.mapSeq fun x => x.push u8)).get? b' = some o := fun b' o hb hu =>
          (Heap.get?_update_other s8.heap (Obj.mapSeq fun x => x.push u8) (Ne.symm hb)).trans hu
        refine ⟨m', hm, i + 1, ys ++ [y], its ++ [u8], _, H8, b1.turned (t' := s8.toks) keep b5 hDC (.inr (Nat.le_refl _)) (fun x c e z => ?_) (fun p hp => by simp [blk] at hp), T.keep _ _ _ b2 fun b hb o e => keep b o (fun z => hDf (z ▸ hb)) e, b3,
          v3.append (.cons r8 .nil), q, b5, ?_, w8⟩
        · exact absurd (celt x c e) (by rw [z]; exact Nat.lt_irrefl _)
        · rw [List.length_append, List.length_singleton]; omega
  exact codeAny_compStart_list (loop _ rfl) (T.self _ 0 _ _ _ (T.keep _ _ _ st fun b hb o e => old b o e) (loop _ rfl))
theorem comp_back {pins : List (Addr × Obj)} {σ : St} {H H' : Hp} {s s' : Shared} {fp : List Addr} {C : Addr} {ys : List V} {its : List Value} {n : Nat} {σb : St} {h' : Heap}
    (I : Inv X pins σ H s) (hf : ∀ b ∈ fp, FpOk X pins H b) (hC : s.heap.objs.size < C) (v : Vals ys its) (hz : ys.length ≤ sizeLine) (IY : Inv (blk X N scope cl C s H fp) [] σb H' s')
    (e : s'.heap.get? s.heap.objs.size = some { cls := .type "list", data := .seq its.toArray n }) (en : H' s.heap.objs.size = none) (hs : ∀ b o, b ≠ C → s'.heap.get? b = some o → h'.get? b = some o) :
    Inv X pins σ (upd H' s.heap.objs.size (.lst ys)) { s' with heap := h' } := by
  have hCn : H' C = none := IY.free
  have hok : HOk X.prog X.w H' h' := fun b u q => by
    have nC : ∀ c u', H' c = some u' → c ≠ C := fun c u' q' z => by rw [z, hCn] at q'; cases q'
    refine (IY.hok b u q).stay (fun c w' hc q' => hs c w' ?_ q') (fun _ q' => q') fun _ _ q' => q'
    rcases hc with z | z
    · rw [z]; exact nC b u q
    · exact nC c _ z
  have lt : ∀ b o, s.heap.get? b = some o → b ≠ C := fun b o q => Nat.ne_of_lt (Nat.lt_trans (Heap.lt_size q) hC)
  have u : Un (frs X.stack) fp H H' s.heap h' := ⟨fun b o q nn hb hx => hs b o (lt b o q) (IY.base.keep b o q nn hb hx), fun b o q nn hb hx => by
      obtain ⟨sl, q'⟩ := IY.base.slot b o q nn hb hx
      exact ⟨sl, hs b _ (lt b o q) q'⟩, IY.base.free, fun b o q hx => by
      obtain ⟨o', q'⟩ := IY.base.there b o q hx
      exact ⟨o', hs b o' (lt b o q) q'⟩, IY.base.tups, IY.base.frzs, IY.base.tbls⟩
  have I1 : Inv X pins σ H' { s' with heap := h' } := I.call' (s' := { s' with heap := h' }) (ch := fp) IY.os u hok IY.bare fun b hb => ⟨(hf b hb).2.2.2.1, (hf b hb).2.1, (hf b hb).2.2.2.2.1, (hf b hb).2.2.2.2.2⟩
  have hD : h'.get? s.heap.objs.size = some { cls := .type "list", data := .seq its.toArray n } := hs _ _ (Nat.ne_of_lt hC) e
  exact I1.track (by
    have f := I.fpOk (H' := H') (b := s.heap.objs.size) (Nat.le_refl _) en
    exact f) ⟨hz, its, n, v, hD⟩
theorem pe_comp (ok : CompOk X N nt caps scope) (hc : X.calm = true) (hi : PI X tg iter wi)
    (hg : ∀ cl C s H fp, PG (blk X N scope cl C s H fp) tg g) (hgk : GKeep nt g) (ht : ∀ cl C s H fp, PTs (blk X N scope cl C s H fp) ifs tt) (he : ∀ cl C s H fp, PE (blk X N scope cl C s H fp) elt te)
    (hs : ∀ x, foldedSetIterable iter X.env x = pure x := by intro _; rfl) : PE X (.ListComp elt [⟨tg, iter, ifs, 0⟩] scope pos) (tComp nt caps wi g tt te) := by
  intro pins s σ H Q I h
  obtain ⟨cl, hcl, h1, h2⟩ := closure_some (scope := scope) (env := X.env) fun n hn => I.ok.has n (ok.free n hn)
  rw [eval_ListComp]
  refine wpAny_comprehension_free (use := none) rfl hs hcl ok.kind ok.names (thn (hi pins s σ H _ I h) fun xv s1 h1' => thn h1' fun itv s2 h2' => ?_)
  obtain ⟨it, fp, tn, J, H2, e, I2, T, st2, f2, W, ⟨m0, w0⟩, turn⟩ := h2'
  subst e
  refine comp_run (RR := fun acc C => compPost (model X.prog X.w) X.A X.xe none (EP X pins σ Q) acc C) ok hc h1 h2 hg hgk ht he I2 T st2 f2 W (fun ys H' => ys.length ≤ sizeLine ∧ ∀ p, H' p = none → Q (.ref p) (upd H' p (.lst ys))) m0 w0 turn ?_
  intro C s' ys its n H' hC v IY e en zz
  obtain ⟨m, hn, _⟩ := IY.loc
  exact ⟨m, hn, fun h' hs' => ⟨.ref s2.heap.objs.size, _, comp_back I2 f2 hC v zz.1 IY e en (fun b o hb q => hs'.extBut b o hb q), rfl, zz.2 _ en⟩⟩
theorem ps_comp {i : Nat} {y : Str} {py spos : Pos} (hN : X.N.Nodup) (hyi : X.N[i]? = some y) (hy : X.env.scope.names.lookup y = some .local) (hsw : swapsWith (.ListComp elt [⟨tg, iter, ifs, 0⟩] scope pos) (some (.Name y py)) spos.line X.env = pure true)
    (ok : CompOk X N nt caps scope) (hc : X.calm = true) (hi : PI X tg iter wi)
    (hg : ∀ cl C s H fp, PG (blk X N scope cl C s H fp) tg g) (hgk : GKeep nt g) (ht : ∀ cl C s H fp, PTs (blk X N scope cl C s H fp) ifs tt) (he : ∀ cl C s H fp, PE (blk X N scope cl C s H fp) elt te)
    (hs : ∀ x, foldedSetIterable iter X.env x = pure x := by intro _; rfl) : PS X (.Assign [.Name y py] (.ListComp elt [⟨tg, iter, ifs, 0⟩] scope pos) spos) (tAsg (tComp nt caps wi g tt te) (gName i)) := by
  intro pins s σ H D I h
  obtain ⟨cl, hcl, h1, h2⟩ := closure_some (scope := scope) (env := X.env) fun n hn => I.ok.has n (ok.free n hn)
  rw [exec_Assign_Name_used _ _ _ _ hsw]
  refine wpAny_bind (wpAny_standAt (wpAny_bind ?_))
  show wpAny _ X.A (do let _ ← comprehension (.ListComp elt [⟨tg, iter, ifs, 0⟩] scope pos) scope X.env _ (newList []) false (eval iter X.env) (some (assign (.Name y py) X.env))) _ _ s
  refine wpAny_bind (wpAny_mono (wpAny_comprehension_free (use := some (assign (.Name y py) X.env)) (Q := fun _ s' => SP X pins D .next s') rfl hs hcl ok.kind ok.names
    (thn (hi pins s σ H _ I h) fun xv s1 h1' => thn h1' fun itv s2 h2' => ?_)) (fun _ s' hq => wpAny_pure (wpAny_pure hq)) fun _ _ e => e)
  obtain ⟨it, fp, tn, J, H2, e, I2, T, st2, f2, W, ⟨m0, w0⟩, turn⟩ := h2'
  subst e
  refine comp_run (RR := fun acc C => compPost (model X.prog X.w) X.A X.xe (some (assign (.Name y py) X.env)) (fun _ s' => SP X pins D .next s') acc C) ok hc h1 h2 hg hgk ht he I2 T st2 f2 W
    (fun ys H' => ys.length ≤ sizeLine ∧ ∀ p, H' p = none → gName i (.ref p) σ (upd H' p (.lst ys)) D.nx) m0 w0 turn ?_
  intro C s' ys its n H' hC v IY e en zz
  obtain ⟨m, hn, _⟩ := IY.loc
  have I3 : Inv X pins σ (upd H' s2.heap.objs.size (.lst ys)) s' := comp_back (h' := s'.heap) I2 f2 hC v zz.1 IY e en fun b o hb q => q
  obtain ⟨o, es, ep, ho, r⟩ := id hn
  have fC : FpOk X pins (upd H' s2.heap.objs.size (.lst ys)) C := by
    have f := I2.fpOk (H' := H') (b := C) (Nat.le_of_lt hC) IY.free
    refine ⟨by rw [upd_ne (Ne.symm (Nat.ne_of_lt hC))]; exact IY.free, f.2⟩
  show wpAny (model X.prog X.w) X.A (assign (.Name y py) X.env (.ref s2.heap.objs.size)) (fun _ s'' => ∃ m, s''.heap.Ns C m ∧ ∀ h', Heap.SameBut C s''.heap h' → SP X pins D .next { s'' with heap := h' }) X.xe s'
  have I3p : Inv X (pins ++ [(C, o)]) σ (upd H' s2.heap.objs.size (.lst ys)) s' := I3.pins_of fun p hp => by
    rcases List.mem_append.mp hp with z | z
    · exact I3.pin p (List.mem_append_right _ z)
    · have e : p = (C, o) := by simpa using z
      subst e
      exact ⟨ho, fC.1, fC.2.1, fC.2.2.1, fun v z => by rw [r.1] at z; cases z⟩
  refine wpAny_assign_Name (store_ok I3p hN hyi (.inl hy) (v := .ref s2.heap.objs.size) rfl (fun s4 I4 => ?_) (.inr hy))
  have a4 := I4.pin (C, o) (List.mem_append_right _ (List.mem_append_right _ (by simp)))
  refine ⟨m, ⟨o, es, ep, a4.1, r⟩, fun h' hs' => ⟨_, _, ?_, zz.2 _ en⟩⟩
  exact (I4.unpinned).turned (t' := s4.toks) (fun b o' hb q => hs'.extBut b o' hb q) fC.1 fC.2.1 fC.2.2.2.1 fC.2.2.2.2.1 fC.2.2.2.2.2
end
end L2
namespace L2
open PySem PySem.Spec PyProof.Rows
structure Cal (P : Program) (w : World) (K : PySem.W.Frag) (mg : Str → Option Value) (base : Heap) (x : Str) (k : Nat) (ps : List Str) (sp : Sp) (f : Addr) (fd : FuncData) : Prop where
  ok : FnOk P w K mg base CX0 k f fd ps sp
  mg : mg x = some (.ref f)
  kp : PySem.W.keepIn K (.ref f) = true
  bd : Binds K fd ps []
section
variable {X : Cx} {x : Str} {p pos : Pos} {e : Expr} {es : List Expr} {t : TA} {k j : Nat} {ps : List Str} {sp : Sp} {f : Addr} {fd : FuncData}
theorem pe_cal (C : Cal X.prog X.w X.K X.mg X.base x k ps sp f fd) (hr : Room j X.A) (hj : k ≤ j) (hg : Gl X x) (ha : PA X (e :: es) t) (hdb : (x == ("__debug__" : Str)) = false := by decide)
    (he : starEach (e :: es) X.env = (false, eval e X.env) :: starEach es X.env := by rfl) (hpl : (backTo pos (starEach es X.env)).any (·.1) = false := by rfl) :
    PE X (.Call (.Name x p) (e :: es) [] pos) (tCall sp [] E0 t) := pe_call C.ok (hr.mono hj) hg C.mg C.kp C.bd .nil pass0 ha hdb he hpl
end
section
variable {X : Cx}
def CDivB (i j : Int) : Prop := 0 < j ∧ j < 2 ^ 200
theorem CDivB.log {i j : Int} (h : CDivB i j) : j.natAbs.log2 < 9000 := by
  have h1 : 0 < j := h.1
  have h2 : j < 2 ^ 200 := h.2
  have h3 : j.natAbs < 2 ^ 200 := by omega
  have h4 : j.natAbs ≠ 0 := by omega
  have := (Nat.log2_lt h4).mpr h3
  omega
theorem op_fdivB : OpR X (binaryOp .FloorDiv) (rI CDivB fun i j => .int (i / j)) := opI fun i j _ _ _ _ _ hc q => by
  have h1 : (0 : Int) < j := hc.1
  exact floordiv_int (by omega) (by rw [Int.fdiv_eq_ediv_of_nonneg i (by omega)]; exact q) (.inl (PyProof.noPylong_of_log2 hc.log))
def kdOf (H : Hp) : V → Option String
  | .non => some "NoneType"
  | .bl _ => some "bool"
  | .int _ => some "int"
  | .str _ => some "str"
  | .ref a => match H a with
    | some (.lst _) => some "list"
    | some (.frz _ (.lst _)) => some "list"
    | some (.tup _) => some "tuple"
    | some (.dK _) => some "dict"
    | _ => none
  | _ => none
def subT (t c : String) : Bool := t == c || (t == "bool" && c == "int")
def rIsinst : List V → Hp → VK → Prop := fun xs H Q => ∃ x c t, xs = [x, .ty c] ∧ kdOf H x = some t ∧ c ∈ ["int", "bool", "list", "tuple", "str"] ∧ Q (.bl (subT t c)) H
def eqVs (xs ys : List V) : Bool := xs.length == ys.length && (List.range xs.length).all fun j => eqV (xs.getD j .non) (ys.getD j .non)
def rEqL (K : PySem.W.Frag) : R2 := fun x y H Q => ∃ a b xs ys, x = .ref a ∧ y = .ref b ∧ SqL K H a xs ∧ SqL K H b ys ∧ xs.all flatV = true ∧ ys.all flatV = true ∧ Q (.bl (eqVs xs ys)) H
def rNeL (K : PySem.W.Frag) : R2 := fun x y H Q => ∃ a b xs ys, x = .ref a ∧ y = .ref b ∧ SqL K H a xs ∧ SqL K H b ys ∧ xs.all flatV = true ∧ ys.all flatV = true ∧ Q (.bl (!eqVs xs ys)) H
theorem item_eqAt {A : Around} {s : Shared} {xs ys : List V} {us ws : List Value} (rx : Vals xs us) (ry : Vals ys ws) (fx : xs.all flatV = true) (fy : ys.all flatV = true) (j : Nat) (h1 : j < us.toArray.size) (h2 : j < ws.toArray.size) :
    SeqAt.EqAt A s us.toArray[j] ws.toArray[j] (eqV (xs.getD j .non) (ys.getD j .non)) := by
  have l1 := rx.length
  have l2 := ry.length
  rw [List.size_toArray] at h1 h2
  have e1 : xs[j]? = some (xs.getD j .non) := by rw [List.getD_eq_getElem?_getD, List.getElem?_eq_getElem (by omega)]; rfl
  have e2 : ys[j]? = some (ys.getD j .non) := by rw [List.getD_eq_getElem?_getD, List.getElem?_eq_getElem (by omega)]; rfl
  obtain ⟨u, hu, ru⟩ := rx.get e1
  obtain ⟨v, hv, rv⟩ := ry.get e2
  have g1 : us.toArray[j] = u := by
    rw [List.getElem_toArray]
    exact Option.some.inj ((List.getElem?_eq_getElem h1).symm.trans hu)
  have g2 : ws.toArray[j] = v := by
    rw [List.getElem_toArray]
    exact Option.some.inj ((List.getElem?_eq_getElem h2).symm.trans hv)
  rw [g1, g2]
  exact eqAt_V ru rv (List.all_eq_true.mp fx _ (List.mem_of_getElem? e1)) (List.all_eq_true.mp fy _ (List.mem_of_getElem? e2))
theorem op_eqL (hu : X.A.units < cLine) : OpR X (compareOp .Eq) (rEqL X.K) := by
  intro pins s σ H x y v u Q I rx ry h
  obtain ⟨a, b, xs, ys, rfl, rfl, ha, hb, fx, fy, q⟩ := h
  cases rx
  cases ry
  obtain ⟨us, r1, p1, z1⟩ := I.list ha
  obtain ⟨ws, r2, p2, z2⟩ := I.list hb
  have l1 := r1.length
  have l2 := r2.length
  by_cases hl : xs.length = ys.length
  · refine SeqAt.eq_listAt p1.isList p2.isList (by simp only [List.size_toArray]; omega) hu (fun j h1 h2 => item_eqAt r1 r2 fx fy j h1 h2) ⟨.bl _, H, I, rfl, ?_⟩
    have e : eqVs xs ys = (List.range us.toArray.size).all fun j => eqV (xs.getD j .non) (ys.getD j .non) := by
      unfold eqVs
      rw [show (xs.length == ys.length) = true by simpa using hl, Bool.true_and, List.size_toArray, l1]
    rw [← e]
    exact q
  · refine SeqAt.eq_list_lengthsAt p1.isList p2.isList (by simp only [List.size_toArray, bne_iff_ne]; omega) hu ⟨.bl _, H, I, rfl, ?_⟩
    have e : eqVs xs ys = false := by
      unfold eqVs
      rw [show (xs.length == ys.length) = false by simpa using hl, Bool.false_and]
    rw [← e]
    exact q
theorem op_neL (hu : X.A.units < cLine) : OpR X (compareOp .NotEq) (rNeL X.K) := by
  intro pins s σ H x y v u Q I rx ry h
  obtain ⟨a, b, xs, ys, rfl, rfl, ha, hb, fx, fy, q⟩ := h
  cases rx
  cases ry
  obtain ⟨us, r1, p1, z1⟩ := I.list ha
  obtain ⟨ws, r2, p2, z2⟩ := I.list hb
  have l1 := r1.length
  have l2 := r2.length
  by_cases hl : xs.length = ys.length
  · refine SeqAt.RcNeAt.lists p1.isList p2.isList (by simp only [List.size_toArray]; omega) hu (fun j h1 h2 => item_eqAt r1 r2 fx fy j h1 h2) X.prog X.w _ _ ⟨.bl _, H, I, rfl, ?_⟩
    have e : eqVs xs ys = (List.range us.toArray.size).all fun j => eqV (xs.getD j .non) (ys.getD j .non) := by
      unfold eqVs
      rw [show (xs.length == ys.length) = true by simpa using hl, Bool.true_and, List.size_toArray, l1]
    rw [← e]
    exact q
  · refine SeqAt.RcNeAt.lists_lengths p1.isList p2.isList (by simp only [List.size_toArray, bne_iff_ne]; omega) hu X.prog X.w _ _ ⟨.bl _, H, I, rfl, ?_⟩
    have e : eqVs xs ys = false := by
      unfold eqVs
      rw [show (xs.length == ys.length) = false by simpa using hl, Bool.false_and]
    rw [e] at q
    exact q
def rCatS (K : PySem.W.Frag) : R2 := fun x y H Q => ∃ l b xs zs, x = .ref l ∧ y = .ref b ∧ SqL K H l xs ∧ SqL K H b zs ∧ xs.length + zs.length ≤ sizeLine ∧ ∀ p, H p = none → Q (.ref p) (upd H p (.lst (xs ++ zs)))
theorem op_catS : OpR X (binaryOp .Add) (rCatS X.K) := by
  intro pins s σ H x y v u Q I rx ry h
  obtain ⟨l, b, xs, zs, rfl, rfl, hl, hb, hz, q⟩ := h
  cases rx
  cases ry
  obtain ⟨us, r1, p1, z1⟩ := I.list hl
  obtain ⟨ws, r2, p2, z2⟩ := I.list hb
  obtain ⟨⟨c1, d1, t1, s1⟩, n1, e1, ec1, ed1, et1⟩ := p1
  obtain ⟨⟨c2, d2, t2, s2⟩, n2, e2, ec2, ed2, et2⟩ := p2
  simp only at ec1 ed1 et1 ec2 ed2 et2
  subst ec1 ed1 et1 ec2 ed2 et2
  have l1 := r1.length
  have l2 := r2.length
  refine concat_meets ⟨_, e1, rfl⟩ ⟨_, e2, rfl⟩ noFill_list_add seq_list_add PySem.F.slot_list_add PySem.F.entry_list_add (PySem.F.args_list_add_2 _ _) (list_addW l b us.toArray ws.toArray n1 n2 none none s1 s2 (by simp only [List.size_toArray]; omega)) ⟨e1, e2, ?_⟩
  have ea : us.toArray ++ ws.toArray = (us ++ ws).toArray := by simp
  rw [ea]
  exact ⟨.ref _, _, I.lnew (t' := s.toks) (r1.append r2) (by rw [List.length_append]; omega), rfl, q _ I.fresh⟩
def isPl : V → V → Bool
  | .bl _, .bl _ => true
  | .non, .bl _ => true
  | .bl _, .non => true
  | .non, .non => true
  | .int _, .bl _ => true
  | .int _, .non => true
  | .str _, .bl _ => true
  | .str _, .non => true
  | .ref _, .bl _ => true
  | .ref _, .non => true
  | _, _ => false
theorem is_ok {x y : V} {v u : Value} (rx : RelV x v) (ry : RelV y u) (h : isPl x y = true) : plainIs v u = true ∧ (v == u) = decide (x = y) := by
  cases x <;> cases y <;> first
    | exact absurd (show false = true from h) Bool.false_ne_true
    | (cases rx; cases ry; exact ⟨rfl, rfl⟩)
    | (cases rx; cases ry; rename_i a b; cases a <;> cases b <;> exact ⟨rfl, rfl⟩)
    | (obtain ⟨t, rfl⟩ := rx; cases ry; exact ⟨rfl, rfl⟩)
theorem op_isP : OpR X (compareOp .Is) (fun x y H Q => isPl x y = true ∧ Q (.bl (decide (x = y))) H) := by
  intro pins s σ H x y v u Q I rx ry h
  obtain ⟨e1, e2⟩ := is_ok rx ry h.1
  exact wpAny_is_plain e1 ⟨.bl _, H, I, by rw [e2]; rfl, h.2⟩
theorem op_isnotP : OpR X (compareOp .IsNot) (fun x y H Q => isPl x y = true ∧ Q (.bl (!decide (x = y))) H) := by
  intro pins s σ H x y v u Q I rx ry h
  obtain ⟨e1, e2⟩ := is_ok rx ry h.1
  exact wpAny_isNot_plain e1 ⟨.bl _, H, I, by rw [e2]; rfl, h.2⟩
theorem mt_bitlen : MtR X "int.bit_length" (fun x vs H Q => ∃ i, x = .int i ∧ vs = [] ∧ Q (.int (Builtin.Int.intBits i)) H) := by
  intro pins s σ H x vs v us Q I rx rv h
  obtain ⟨i, rfl, rfl, q⟩ := h
  obtain ⟨t, rfl⟩ := rx
  cases rv
  exact call_int_bit_length ⟨.int _, H, I.tok _, ⟨_, rfl⟩, q⟩
theorem pe_const {x : Str} {i : Int} {p : Pos} (h : ∃ t, X.mg x = some (.int i t)) (hg : Gl X x) (hd : (x == ("__debug__" : Str)) = false := by decide) : PE X (.Name x p) (tC (.int i)) := by
  obtain ⟨t, h⟩ := h
  exact pe_glob hg h ⟨t, rfl⟩ hd
theorem cx_K {CX : CXT} {P : Program} {w : World} {K : PySem.W.Frag} {mg : Str → Option Value} {base : Heap} {N : List Str} {qual : Str} {scope : Scope} {f : Addr} {cd : Value} {A : Around} {outer : List Env} {s : Shared} {H : Hp} {E : XK} :
    (cxOf CX P w K mg base N qual scope f cd A outer s H E).K = K := rfl
theorem tyV_list {K : PySem.W.Frag} {H : Hp} {a : Addr} {xs : List V} (h : H a = some (.lst xs)) : tyV K "list" (.ref a) H := .inl ⟨rfl, xs, SqL.of h⟩
theorem tyV_upd {K : PySem.W.Frag} {H : Hp} {a : Addr} {xs : List V} : tyV K "list" (.ref a) (upd H a (.lst xs)) ↔ True := ⟨fun _ => trivial, fun _ => tyV_list upd_same⟩
theorem Same.upd {H H' : Hp} {a : Addr} {o : HO} (e : Same H H') (h : H a = none) : Same H (L2.upd H' a o) := fun b u q => by
  rw [upd_ne (fun z => by rw [z, h] at q; cases q)]
  exact e b u q
theorem Same.new {H : Hp} {a : Addr} {o : HO} (h : H a = none) : Same H (L2.upd H a o) := (Same.refl H).upd h
section
variable {K : PySem.W.Frag} {H : Hp} {Q : VK} {i j : Int} {a : Addr} {b c : Bool} {z z' : Str} {y : V} {g : Int → Int → V}
theorem rCatS_i : rCatS K (.int i) y H Q ↔ False := ⟨fun ⟨_, _, _, _, e, _⟩ => (nomatch e), False.elim⟩
theorem rEqL_i : rEqL K (.int i) y H Q ↔ False := ⟨fun ⟨_, _, _, _, e, _⟩ => (nomatch e), False.elim⟩
theorem rEqL_b : rEqL K (.bl b) y H Q ↔ False := ⟨fun ⟨_, _, _, _, e, _⟩ => (nomatch e), False.elim⟩
theorem rEqL_s : rEqL K (.str z) y H Q ↔ False := ⟨fun ⟨_, _, _, _, e, _⟩ => (nomatch e), False.elim⟩
theorem rEqL_n : rEqL K .non y H Q ↔ False := ⟨fun ⟨_, _, _, _, e, _⟩ => (nomatch e), False.elim⟩
theorem rNeL_i : rNeL K (.int i) y H Q ↔ False := ⟨fun ⟨_, _, _, _, e, _⟩ => (nomatch e), False.elim⟩
theorem rNeL_b : rNeL K (.bl b) y H Q ↔ False := ⟨fun ⟨_, _, _, _, e, _⟩ => (nomatch e), False.elim⟩
theorem rNeL_s : rNeL K (.str z) y H Q ↔ False := ⟨fun ⟨_, _, _, _, e, _⟩ => (nomatch e), False.elim⟩
theorem rNeL_n : rNeL K .non y H Q ↔ False := ⟨fun ⟨_, _, _, _, e, _⟩ => (nomatch e), False.elim⟩
theorem rEq_r : rEq (.ref a) y H Q ↔ False := ⟨fun ⟨e, _⟩ => by cases y <;> exact absurd (show false = true from e) Bool.false_ne_true, False.elim⟩
theorem rNe_r : rNe (.ref a) y H Q ↔ False := ⟨fun ⟨e, _⟩ => by cases y <;> exact absurd (show false = true from e) Bool.false_ne_true, False.elim⟩
theorem rEq_i : rEq (.int i) (.int j) H Q ↔ Q (.bl (decide (i = j))) H := by unfold rEq; simp [show scal (.int i) (.int j) = true from rfl]
theorem rNe_i : rNe (.int i) (.int j) H Q ↔ Q (.bl (!decide (i = j))) H := by unfold rNe; simp [show scal (.int i) (.int j) = true from rfl]
theorem rEq_b : rEq (.bl b) (.bl c) H Q ↔ Q (.bl (decide (b = c))) H := by unfold rEq; simp [show scal (.bl b) (.bl c) = true from rfl]
theorem rNe_b : rNe (.bl b) (.bl c) H Q ↔ Q (.bl (!decide (b = c))) H := by unfold rNe; simp [show scal (.bl b) (.bl c) = true from rfl]
theorem rEq_s : rEq (.str z) (.str z') H Q ↔ Q (.bl (decide (z = z'))) H := by unfold rEq; simp [show scal (.str z) (.str z') = true from rfl]
theorem rNe_s : rNe (.str z) (.str z') H Q ↔ Q (.bl (!decide (z = z'))) H := by unfold rNe; simp [show scal (.str z) (.str z') = true from rfl]
theorem rI0_r : rI0 g (.ref a) y H Q ↔ False := ⟨fun ⟨_, _, e, _⟩ => (nomatch e), False.elim⟩
theorem rI0_i : rI0 g (.int i) (.int j) H Q ↔ Q (g i j) H := ⟨fun ⟨_, _, e, e', q⟩ => by cases e; cases e'; exact q, fun q => ⟨i, j, rfl, rfl, q⟩⟩
theorem rI_i {C : Int → Int → Prop} : rI C g (.int i) (.int j) H Q ↔ C i j ∧ Q (g i j) H := ⟨fun ⟨_, _, e, e', q⟩ => by cases e; cases e'; exact q, fun q => ⟨i, j, rfl, rfl, q⟩⟩
theorem rApp_upd {xs : List V} : rAppend (.ref a) [y] (upd H a (.lst xs)) Q ↔ xs.length < sizeLine ∧ Q .non (upd H a (.lst (xs ++ [y]))) := by
  constructor
  · rintro ⟨l, ys, v, e1, e2, e3, e4, q⟩
    cases e1; cases e2
    rw [upd_same] at e3
    cases e3
    rw [upd_upd] at q
    exact ⟨e4, q⟩
  · rintro ⟨e, q⟩
    exact ⟨a, xs, y, rfl, rfl, upd_same, e, by rw [upd_upd]; exact q⟩
theorem cpow_of (h0 : 0 ≤ j) (h1 : j ≤ 1000) (h2 : -1000 ≤ i) (h3 : i ≤ 1000) : CPow i j := ⟨h0, by omega, by omega⟩
end
def LoopJ (J : It) (g : TG) (tb : TS) (D : Ends) (σ : St) (H : Hp) : Prop := ∃ W : Nat → Nat → St → Hp → Prop, (∃ m, W 0 m σ H) ∧ ∀ i m σ H, W i m σ H →
  (J.stop i H ∧ D.nx σ H) ∨ (J.go i H ∧ ∃ N : St → Hp → Prop, (∀ σ' H', N σ' H' → ∃ m', m' < m ∧ W (i + 1) m' σ' H') ∧ ∀ x H', J.yld i H x H' → g x σ H' fun σ2 H2 => tb { D with nx := N, ct := N, bk := D.nx } σ2 H2)
def CompJ (J : It) (nt : Nat) (caps : List Nat) (g : TG) (tt : TT) (te : TE) (σ : St) (H : Hp) (Q : VK) : Prop := ∃ W : Nat → Nat → List V → Hp → Prop, (∃ m, W 0 m [] H) ∧ ∀ i m ys H2, W i m ys H2 →
    (J.stop i H2 ∧ ys.length ≤ sizeLine ∧ ∀ p, H2 p = none → Q (.ref p) (upd H2 p (.lst ys))) ∨
    (J.go i H2 ∧ ys.length < sizeLine ∧ ∀ x H3, J.yld i H2 x H3 → g x (capSt nt caps σ) H3 fun σ4 H4 => tt σ4 H4 fun b H5 =>
      if b = true then te σ4 H5 fun y H6 => ∃ m', m' < m ∧ W (i + 1) m' (ys ++ [y]) H6 else ∃ m', m' < m ∧ W (i + 1) m' ys H5)
section
variable {K : PySem.W.Frag} {g : TG} {tb : TS} {D : Ends} {σ : St} {H : Hp} {a : Addr} {xs : List V} {tl : TE} {ta : TA} {nt : Nat} {caps : List Nat} {tt : TT} {te : TE} {Q : VK}
theorem tFor_l : tFor (iList K tl) g tb D σ H ↔ tl σ H fun x H1 => ∃ a, x = .ref a ∧ (∃ xs, SqL K H1 a xs) ∧ LoopJ (Itl K a) g tb D σ H1 := Iff.rfl
theorem tFor_r1 : tFor (iRng1 ta) g tb D σ H ↔ ta σ H fun vs H1 => ∃ j : Int, vs = [.int j] ∧ -(2 ^ 62) ≤ j ∧ j < 2 ^ 62 ∧ LoopJ (Itr 0 j.toNat) g tb D σ H1 := Iff.rfl
theorem tFor_r2 : tFor (iRng2 ta) g tb D σ H ↔ ta σ H fun vs H1 => ∃ i j : Int, vs = [.int i, .int j] ∧ (-(2 ^ 62) ≤ i ∧ i < 2 ^ 62 ∧ -(2 ^ 62) ≤ j ∧ j < 2 ^ 62) ∧ LoopJ (Itr i (j - i).toNat) g tb D σ H1 := Iff.rfl
theorem tComp_l : tComp nt caps (iList K tl) g tt te σ H Q ↔ tl σ H fun x H1 => ∃ a, x = .ref a ∧ (∃ xs, SqL K H1 a xs) ∧ CompJ (Itl K a) nt caps g tt te σ H1 Q := Iff.rfl
theorem tComp_r1 : tComp nt caps (iRng1 ta) g tt te σ H Q ↔ ta σ H fun vs H1 => ∃ j : Int, vs = [.int j] ∧ -(2 ^ 62) ≤ j ∧ j < 2 ^ 62 ∧ CompJ (Itr 0 j.toNat) nt caps g tt te σ H1 Q := Iff.rfl
theorem tComp_r2 : tComp nt caps (iRng2 ta) g tt te σ H Q ↔ ta σ H fun vs H1 => ∃ i j : Int, vs = [.int i, .int j] ∧ (-(2 ^ 62) ≤ i ∧ i < 2 ^ 62 ∧ -(2 ^ 62) ≤ j ∧ j < 2 ^ 62) ∧ CompJ (Itr i (j - i).toNat) nt caps g tt te σ H1 Q := Iff.rfl
theorem loopL (Pv : Nat → St → Hp → Prop) (h0 : Pv 0 σ H) (hl : ∀ i σ H, i ≤ xs.length → Pv i σ H → SqL K H a xs)
    (hs : ∀ i x σ H, xs[i]? = some x → Pv i σ H → g x σ H fun σ2 H2 => tb { D with nx := Pv (i + 1), ct := Pv (i + 1), bk := D.nx } σ2 H2) (hd : ∀ σ H, Pv xs.length σ H → D.nx σ H) : LoopJ (Itl K a) g tb D σ H := for_list Pv h0 hl hs hd
theorem loopR {lo : Int} {n : Nat} (Pv : Nat → St → Hp → Prop) (h0 : Pv 0 σ H)
    (hs : ∀ i σ H, i < n → Pv i σ H → g (.int (lo + i)) σ H fun σ2 H2 => tb { D with nx := Pv (i + 1), ct := Pv (i + 1), bk := D.nx } σ2 H2) (hd : ∀ σ H, Pv n σ H → D.nx σ H) : LoopJ (Itr lo n) g tb D σ H := for_range Pv h0 hs hd
end
section
variable {t u t' u' : TS} {te : TE} {g : TG} {c : TT} {D : Ends} {σ : St} {H : Hp} {wi : TI} {tb : TS}
theorem tSeq_asg : tSeq (tAsg te g) u D σ H ↔ te σ H fun x H1 => g x σ H1 (u D) := Iff.rfl
theorem tSeq_drop : tSeq (tDrop te) u D σ H ↔ te σ H fun _ H1 => u D σ H1 := Iff.rfl
theorem tSeq_for : tSeq (tFor wi g tb) u D σ H ↔ tFor wi g tb { D with nx := u D } σ H := Iff.rfl
theorem tSeq_while : tSeq (tWhile c tb) u D σ H ↔ tWhile c tb { D with nx := u D } σ H := Iff.rfl
theorem tSeq_ifr : tSeq (tIfS c (tRet te) tNext) u D σ H ↔ c σ H fun b H1 => if b = true then te σ H1 D.rt else u D σ H1 := Iff.rfl
theorem tIfS_ap : tIfS c t u D σ H ↔ c σ H fun b H1 => if b = true then t D σ H1 else u D σ H1 := Iff.rfl
theorem seqCut (I : St → Hp → Prop) (h2 : ∀ σ' H', I σ' H' → u D σ' H') (h1 : ∀ N : St → Hp → Prop, (∀ σ' H', I σ' H' → N σ' H') → t { D with nx := N } σ H) : tSeq t u D σ H := h1 (u D) h2
end
theorem rdg {t : TS} {D : Ends} {σ σ' : St} {H : Hp} (e : σ = σ') (h : t D σ' H) : t D σ H := e ▸ h
def EqOf (K : PySem.W.Frag) (x y : V) (H : Hp) (b : Bool) : Prop := (scal x y = true ∧ b = decide (x = y)) ∨
  ∃ a c xs ys, x = .ref a ∧ y = .ref c ∧ SqL K H a xs ∧ SqL K H c ys ∧ xs.all flatV = true ∧ ys.all flatV = true ∧ b = eqVs xs ys
def rEqX (K : PySem.W.Frag) : R2 := fun x y H Q => ∃ b, EqOf K x y H b ∧ Q (.bl b) H
def rNeX (K : PySem.W.Frag) : R2 := fun x y H Q => ∃ b, EqOf K x y H b ∧ Q (.bl (!b)) H
def IxOf (K : PySem.W.Frag) (x y : V) (H : Hp) (v : V) : Prop := (∃ p xs i, x = .ref p ∧ y = .int i ∧ SqL K H p xs ∧ atI xs i = some v) ∨ ∃ p xs i, x = .ref p ∧ y = .int i ∧ SqT K H p xs ∧ atI xs i = some v
def rIxX (K : PySem.W.Frag) : R2 := fun x y H Q => ∃ v, IxOf K x y H v ∧ Q v H
section
variable {K : PySem.W.Frag} {H : Hp} {Q : VK} {i j : Int} {a c : Addr} {b b' : Bool} {z z' : Str} {xs ys : List V}
theorem eqOf_i : EqOf K (.int i) (.int j) H b ↔ b = decide (i = j) := by
  constructor
  · rintro (⟨_, e⟩ | ⟨_, _, _, _, e, _⟩)
    · rw [e]; simp
    · cases e
  · intro e; exact .inl ⟨rfl, by rw [e]; simp⟩
theorem eqOf_b {b'' : Bool} : EqOf K (.bl b') (.bl b) H b'' ↔ b'' = decide (b' = b) := by
  constructor
  · rintro (⟨_, e⟩ | ⟨_, _, _, _, e, _⟩)
    · rw [e]; simp
    · cases e
  · intro e; exact .inl ⟨rfl, by rw [e]; simp⟩
theorem eqOf_s : EqOf K (.str z) (.str z') H b ↔ b = decide (z = z') := by
  constructor
  · rintro (⟨_, e⟩ | ⟨_, _, _, _, e, _⟩)
    · rw [e]; simp
    · cases e
  · intro e; exact .inl ⟨rfl, by rw [e]; simp⟩
theorem rEqX_i : rEqX K (.int i) (.int j) H Q ↔ Q (.bl (decide (i = j))) H := by unfold rEqX; simp [eqOf_i]
theorem rNeX_i : rNeX K (.int i) (.int j) H Q ↔ Q (.bl (!decide (i = j))) H := by unfold rNeX; simp [eqOf_i]
theorem rEqX_b : rEqX K (.bl b) (.bl b') H Q ↔ Q (.bl (decide (b = b'))) H := by unfold rEqX; simp [eqOf_b]
theorem rNeX_b : rNeX K (.bl b) (.bl b') H Q ↔ Q (.bl (!decide (b = b'))) H := by unfold rNeX; simp [eqOf_b]
theorem rEqX_s : rEqX K (.str z) (.str z') H Q ↔ Q (.bl (decide (z = z'))) H := by unfold rEqX; simp [eqOf_s]
theorem rNeX_s : rNeX K (.str z) (.str z') H Q ↔ Q (.bl (!decide (z = z'))) H := by unfold rNeX; simp [eqOf_s]
theorem eqX_l (h1 : SqL K H a xs) (h2 : SqL K H c ys) (f1 : xs.all flatV = true) (f2 : ys.all flatV = true) (q : Q (.bl (eqVs xs ys)) H) : rEqX K (.ref a) (.ref c) H Q := ⟨_, .inr ⟨a, c, xs, ys, rfl, rfl, h1, h2, f1, f2, rfl⟩, q⟩
theorem ixX_l {v : V} (h : SqL K H a xs) (e : atI xs i = some v) (q : Q v H) : rIxX K (.ref a) (.int i) H Q := ⟨v, .inl ⟨a, xs, i, rfl, rfl, h, e⟩, q⟩
theorem ixX_t {v : V} (h : SqT K H a xs) (e : atI xs i = some v) (q : Q v H) : rIxX K (.ref a) (.int i) H Q := ⟨v, .inr ⟨a, xs, i, rfl, rfl, h, e⟩, q⟩
theorem op_eqK (h : X.K = K) (hu : X.A.units < cLine) : OpR X (compareOp .Eq) (rEqX K) := by
  subst h
  intro pins s σ H x y v u Q I rx ry q
  obtain ⟨b, hb, q⟩ := q
  rcases hb with ⟨hs, rfl⟩ | ⟨a, c, xs, ys, rfl, rfl, h1, h2, f1, f2, rfl⟩
  · exact op_eq pins s σ H x y v u Q I rx ry ⟨hs, q⟩
  · exact op_eqL hu pins s σ H _ _ v u Q I rx ry ⟨a, c, xs, ys, rfl, rfl, h1, h2, f1, f2, q⟩
theorem op_neK (h : X.K = K) (hu : X.A.units < cLine) : OpR X (compareOp .NotEq) (rNeX K) := by
  subst h
  intro pins s σ H x y v u Q I rx ry q
  obtain ⟨b, hb, q⟩ := q
  rcases hb with ⟨hs, rfl⟩ | ⟨a, c, xs, ys, rfl, rfl, h1, h2, f1, f2, rfl⟩
  · exact op_ne pins s σ H x y v u Q I rx ry ⟨hs, q⟩
  · exact op_neL hu pins s σ H _ _ v u Q I rx ry ⟨a, c, xs, ys, rfl, rfl, h1, h2, f1, f2, q⟩
theorem op_catK (h : X.K = K) : OpR X (binaryOp .Add) (rCatS K) := h ▸ op_catS
theorem op_inK (h : X.K = K) : OpR X (compareOp .In) (rIn K false) := h ▸ op_in_seq
theorem ix_mono {r r' : R2} (h : IxR X r) (hr : ∀ x y H Q, r' x y H Q → r x y H Q) : IxR X r' :=
  fun value slice pins s σ H x y v u Q I rx ry q e => h value slice pins s σ H x y v u Q I rx ry (hr _ _ _ _ q) e
theorem ix_K (h : X.K = K) : IxR X (rIxX K) := by
  subst h
  refine ix_mono ix_seq fun x y H Q q => ?_
  obtain ⟨z, hz, q⟩ := q
  rcases hz with ⟨p, xs, i, e1, e2, e3, e4⟩ | ⟨p, xs, i, e1, e2, e3, e4⟩
  · exact .inl ⟨p, xs, i, z, e1, e2, e3, e4, q⟩
  · exact .inr (.inl ⟨p, xs, i, z, e1, e2, e3, e4, q⟩)
theorem call_lenK (h : X.K = K) : CallR X (.builtin "len") (fun xs H Q => ∃ p ys, xs = [.ref p] ∧ (SqL K H p ys ∨ SqT K H p ys) ∧ Q (.int ys.length) H) := h ▸ call_len_seq
theorem sl_K (h : X.K = K) : SlR X (rSlL K) := h ▸ sl_list
end
def sp1 (R : V → Hp → VK → Prop) : Sp := fun vs H Q _ => ∃ a, vs = [a] ∧ R a H Q
def sp2 (R : V → V → Hp → VK → Prop) : Sp := fun vs H Q _ => ∃ a b, vs = [a, b] ∧ R a b H Q
def sp3 (R : V → V → V → Hp → VK → Prop) : Sp := fun vs H Q _ => ∃ a b c, vs = [a, b, c] ∧ R a b c H Q
def sp4 (R : V → V → V → V → Hp → VK → Prop) : Sp := fun vs H Q _ => ∃ a b c d, vs = [a, b, c, d] ∧ R a b c d H Q
def spLaw (K : PySem.W.Frag) : Sp := sp1 fun x H Q => ∃ (a : Addr) (ns : List Int), x = .ref a ∧ SqL K H a (ns.map V.int) ∧ ns.length ≤ 63 ∧ ∀ H', Q (.bl true) H'
end
end L2
namespace L2
open PySem PySem.Spec PyProof.Rows
section
variable {X : Cx} {K : PySem.W.Frag}
theorem call_sumL (hc : X.calm = true) (hK : X.K = K) : CallR X (.builtin "sum") (fun xs H Q => ∃ (p : Addr) (ns : List Int), xs = [.ref p] ∧ SqL K H p (ns.map V.int) ∧ Q (.int ns.sum) H) := by
  subst hK
  intro pins s σ H xs us Q I r h
  obtain ⟨p, ns, rfl, hq, q⟩ := h
  obtain ⟨u, rfl, ru⟩ := vals1 r
  cases ru
  obtain ⟨its, rv, pl, hz⟩ := I.list hq
  have hi : IntsAre its ns := intsAre_of rv
  obtain ⟨zs, hx⟩ := hi.allInts.items
  refine sum_intListG (I.ok.hd hc) (hx ▸ pl.isList) fun h' tk t' kp => ?_
  have e : preSum (numAt zs) zs.size = ns.sum := by
    have e1 : numsOf its.toArray.toList = ns := hi.numsOf
    rw [preSum_eq, List.take_of_length_le (by simp), ← nums_intItems, ← hx, e1]
  rw [e]
  exact ⟨.int _, H, I.kept (t' := tk) kp, ⟨t', rfl⟩, q⟩
def tRev (K : PySem.W.Frag) (te : TE) : TE := fun σ H Q => te σ H fun x H1 => ∃ a xs, x = .ref a ∧ SqL K H1 a xs ∧ ∀ p, H1 p = none → Q (.ref p) (upd H1 p (.lst xs.reverse))
def Itv (K : PySem.W.Frag) (a : Addr) (xs : List V) : It := ⟨fun i H => SqL K H a xs ∧ i < xs.length, fun i H x H' => H' = H ∧ xs.reverse[i]? = some x, fun i H => SqL K H a xs ∧ xs.length ≤ i⟩
theorem turn_rev {P : Program} {w : World} {K : PySem.W.Frag} {tg : Expr} (a it : Addr) (xs : List V) : Turn P w K tg (Itv K a xs) [it] it (fun i h => i ≤ xs.length ∧ h.IsRevIter it a ((xs.length : Int) - 1 - i)) where
  mem := by simp
  obj := fun i h st b hb => by
    obtain rfl : b = it := by simpa using hb
    obtain ⟨_, o, e, c, d⟩ := st
    exact ⟨o, e, fun v z => by rw [d] at z; cases z⟩
  keep := fun i h h' st k => ⟨st.1, st.2.at fun o e => k it (by simp) o e⟩
  item := by
    intro X hP hw hK hc i pins s σ H E I hf st hg
    subst hP hw hK
    obtain ⟨hq, hi⟩ := hg
    obtain ⟨its, rv, p, hz⟩ := I.list hq
    have hl := rv.length
    obtain ⟨f0, f1, f2, f3, f4, f5⟩ := hf it (by simp)
    have hx : xs[xs.length - 1 - i]? = some (xs[xs.length - 1 - i]'(by omega)) := List.getElem?_eq_getElem (by omega)
    obtain ⟨u, hu, ru⟩ := rv.get hx
    have e1 : (xs.length : Int) - 1 - (i : Int) = ((xs.length - 1 - i : Nat) : Int) := by omega
    have e2 : ((xs.length - 1 - i : Nat) : Int) - 1 = (xs.length : Int) - 1 - ((i + 1 : Nat) : Int) := by omega
    have st2 := st.2
    rw [e1] at st2
    refine wpAny_pyNext_rev_item st2 p.isList (x := u) (by simpa using hu) fun h' st' sb => ?_
    rw [e2] at st'
    have I1 : Inv X pins σ H { s with heap := h' } := I.turned (t' := s.toks) (fun b o hb e => (sb.2 b hb).trans e) f0 f1 f3 f4 f5
    obtain ⟨o, e, c, d⟩ := id st'
    refine ⟨u, rfl, go_of (s := { s with heap := h' }) e c d (by decide) ⟨_, H, I1, ru, ⟨rfl, ?_⟩, ⟨hi, st'⟩, fun b hb => (hf b hb).1⟩⟩
    rw [List.getElem?_reverse hi]
    exact hx
  done := by
    intro X hP hw hK hc i pins s σ H E I hf st hg
    subst hP hw hK
    obtain ⟨hq, hi⟩ := hg
    obtain ⟨f0, f1, f2, f3, f4, f5⟩ := hf it (by simp)
    have e1 : (xs.length : Int) - 1 - (i : Int) = -1 := by have := st.1; omega
    have st2 := st.2
    rw [e1] at st2
    exact wpAny_pyNext_rev_end (I.ok.hd hc) st2 fun h' eb => ⟨rfl, I.turned (t' := s.toks) (fun b o hb e => eb b o hb e) f0 f1 f3 f4 f5⟩
  self := fun _ _ _ _ _ st h => wpAny_pyIter_revIter st.2 h
def iRev (K : PySem.W.Frag) (ta : TA) : TI := fun σ H R => ta σ H fun vs H1 => ∃ a xs, vs = [.ref a] ∧ SqL K H1 a xs ∧ R (Itv K a xs) H1
theorem pi_reversed {a tg : Expr} {ta : TA} {p pos : Pos} (hK : X.K = K) (hg : Gl X "reversed") (hm : X.mg "reversed" = none) (ha : PA X [a] ta) (hs : starEach [a] X.env = [(false, eval a X.env)] := by rfl) : PI X tg (.Call (.Name "reversed" p) [a] [] pos) (iRev K ta) := by
  subst hK
  intro pins s σ H R I h
  refine Call_ (ld_blt I hg hm PyProof.Rows.boot_reversed (PyProof.Rows.callWith_type1 (thn (ha pos pins s σ H _ I h) fun us s1 ⟨vs, H1, I1, r1, q1⟩ => ?_) hs rfl))
  obtain ⟨b, xs, rfl, hq, q⟩ := q1
  obtain ⟨u, rfl, ru⟩ := vals1 r1
  cases ru
  obtain ⟨its, rv, pl, hz⟩ := I1.list hq
  have hl := rv.length
  refine call_reversed_list pl.isList ?_
  have e : (its.toArray.size : Int) - 1 = (xs.length : Int) - 1 - ((0 : Nat) : Int) := by rw [List.size_toArray]; omega
  rw [e]
  have I2 : Inv X pins σ H1 { s1 with heap := s1.heap.push (revObj b ((xs.length : Int) - 1 - ((0 : Nat) : Int))) } := I1.kept (t' := s1.toks) fun c o e => Heap.get?_push_of_some _ e
  have at0 : (s1.heap.push (revObj b ((xs.length : Int) - 1 - ((0 : Nat) : Int)))).IsRevIter s1.heap.objs.size b ((xs.length : Int) - 1 - ((0 : Nat) : Int)) := ⟨_, Heap.get?_push_size _ rfl, rfl, rfl⟩
  refine wpAny_pyIter_revIter at0 ⟨s1.heap.objs.size, [s1.heap.objs.size], _, _, H1, rfl, I2, turn_rev b _ xs, ⟨Nat.zero_le _, at0⟩, fun c hb => ?_, q⟩
  obtain rfl : c = s1.heap.objs.size := by simpa using hb
  exact I1.fpOk (Nat.le_refl _) (I1.hok.fresh (Nat.le_refl _))
end
section
variable {K : PySem.W.Frag} {g : TG} {tb : TS} {D : Ends} {σ : St} {H : Hp} {a : Addr} {xs : List V} {ta : TA}
theorem tFor_rv : tFor (iRev K ta) g tb D σ H ↔ ta σ H fun vs H1 => ∃ a xs, vs = [.ref a] ∧ SqL K H1 a xs ∧ LoopJ (Itv K a xs) g tb D σ H1 := Iff.rfl
theorem loopV (Pv : Nat → St → Hp → Prop) (h0 : Pv 0 σ H) (hl : ∀ i σ H, i ≤ xs.length → Pv i σ H → SqL K H a xs)
    (hs : ∀ i x σ H, xs.reverse[i]? = some x → Pv i σ H → g x σ H fun σ2 H2 => tb { D with nx := Pv (i + 1), ct := Pv (i + 1), bk := D.nx } σ2 H2) (hd : ∀ σ H, Pv xs.length σ H → D.nx σ H) : LoopJ (Itv K a xs) g tb D σ H := by
  refine ⟨fun i m σ H => m = xs.length - i ∧ i ≤ xs.length ∧ Pv i σ H, ⟨_, rfl, Nat.zero_le _, h0⟩, ?_⟩
  rintro i m σ H ⟨rfl, hi, p⟩
  by_cases hlt : i < xs.length
  · refine .inr ⟨⟨hl i σ H hi p, hlt⟩, Pv (i + 1), fun σ' H' q => ⟨xs.length - (i + 1), by omega, rfl, hlt, q⟩, fun x H' y => ?_⟩
    obtain ⟨rfl, y⟩ := y
    exact hs i x σ _ y p
  · obtain rfl : i = xs.length := by omega
    exact .inl ⟨⟨hl _ σ H hi p, Nat.le_refl _⟩, hd σ H p⟩
end
end L2
namespace L2
open PySem PySem.Spec PyProof.Rows
theorem and_nat (a b : Nat) : Builtin.bitAnd (a : Int) (b : Int) = ((a &&& b : Nat) : Int) := by
  rw [bitAnd_pp (by omega) (by omega)]
  rfl
theorem or_nat (a b : Nat) : Builtin.bitOr (a : Int) (b : Int) = ((a ||| b : Nat) : Int) := by
  rw [bitOr_and, and_nat]
  have h : ∀ n (a b : Nat), a < 2 ^ n → a + b = (a ||| b) + (a &&& b) := by
    intro n
    induction n with
    | zero => intro a b ha; have : a = 0 := by omega
              subst this; simp
    | succ n ih =>
      intro a b ha
      have q := ih (a / 2) (b / 2) (by rw [Nat.pow_succ] at ha; omega)
      have e1 : (a ||| b) / 2 = a / 2 ||| b / 2 := Nat.or_div_two
      have e2 : (a &&& b) / 2 = a / 2 &&& b / 2 := Nat.and_div_two
      have m1 : (a ||| b) % 2 = if a % 2 = 1 ∨ b % 2 = 1 then 1 else 0 := by
        have := Nat.testBit_or a b 0
        simp only [Nat.testBit_zero] at this
        rcases Nat.mod_two_eq_zero_or_one (a ||| b) with z | z <;> rcases Nat.mod_two_eq_zero_or_one a with z1 | z1 <;> rcases Nat.mod_two_eq_zero_or_one b with z2 | z2 <;> simp [z, z1, z2] at this ⊢
      have m2 : (a &&& b) % 2 = if a % 2 = 1 ∧ b % 2 = 1 then 1 else 0 := by
        have := Nat.testBit_and a b 0
        simp only [Nat.testBit_zero] at this
        rcases Nat.mod_two_eq_zero_or_one (a &&& b) with z | z <;> rcases Nat.mod_two_eq_zero_or_one a with z1 | z1 <;> rcases Nat.mod_two_eq_zero_or_one b with z2 | z2 <;> simp [z, z1, z2] at this ⊢
      rw [← e1, ← e2] at q
      clear ih e1 e2 ha
      generalize (a ||| b) = x at q m1 ⊢
      generalize (a &&& b) = y at q m2 ⊢
      split at m1 <;> split at m2 <;> omega
  have := h (a + 1) a b (Nat.lt_of_lt_of_le (Nat.lt_succ_self a) (Nat.le_of_lt Nat.lt_two_pow_self))
  omega
theorem inV_ints {i : Int} {ns : List Int} : inV (.int i) (ns.map V.int) = decide (i ∈ ns) := by
  unfold inV
  rw [Bool.eq_iff_iff, List.any_eq_true, decide_eq_true_eq]
  constructor
  · rintro ⟨x, hx, e⟩
    obtain ⟨z, hz, rfl⟩ := List.mem_map.mp hx
    have : z = i := by simpa [eqV] using e
    exact this ▸ hz
  · intro h
    exact ⟨.int i, List.mem_map.mpr ⟨i, h, rfl⟩, by simp [eqV]⟩
theorem flat_ints (ns : List Int) : (ns.map V.int).all flatV = true := by
  rw [List.all_eq_true]
  intro x hx
  obtain ⟨z, _, rfl⟩ := List.mem_map.mp hx
  rfl
theorem eqVs_nil {xs : List V} : eqVs xs [] = xs.isEmpty := by
  cases xs <;> rfl
theorem pow_cast (k : Nat) : (2 : Int) ^ k = ((2 ^ k : Nat) : Int) := by
  rw [Int.natCast_pow]
  rfl
end L2
namespace Tim
open PySem PyProof.Rows
section
variable {prog : Program} {w : World} {A : Around} {E : Value → Shared → Prop} {s : Shared}
theorem sort_any {a : Addr} {vs : List Value} {ns : List Int} {n : Nat} {P : Fin → Shared → Prop} (at0 : s.heap.get? a = some (seqObj "list" vs.toArray n)) (hI : IntsAre vs ns) (hz : vs.length ≤ 63)
    (h : ∀ (out : Array Value) (ms : List Int), IntsAre out.toList ms → ms.Perm ns → ms.Pairwise (· ≤ ·) → P (.done (.ret .none)) { s with heap := sortedHeap s.heap a vs out }) :
    wpAny (model prog w) A (Builtin.«list.sort» ⟨[.ref a], []⟩) P E s := by
  exact list_sort_tree at0 hI (by omega) h
theorem sorted_any {l : Addr} {vs : List Value} {ns : List Int} {Q : Value → Shared → Prop} (hl : s.heap.IsList l vs.toArray) (hI : IntsAre vs ns) (hz : vs.length ≤ 63)
    (h : ∀ (out : Array Value) (ms : List Int), IntsAre out.toList ms → ms.Perm ns → ms.Pairwise (· ≤ ·) → Q (.ref (s.heap.objs.size + 1)) { s with heap := sortedAll s.heap vs out }) :
    wpAny (model prog w) A (call (.builtin "sorted") [.ref l]) Q E s := by
  have lim : vs.length ≤ sizeLine := by rw [sizeLine_eq]; omega
  refine Calls.call_function_entry kind_sorted plain_sorted entry_sorted (args_sorted1 _) (wpAny_bind (m := checkCount "sorted" 1 1 _) (wpAny_pure (wpAny_bind (collect_list hl (wpAny_bind (wpAny_newList ?_ lim)) lim))))
  have e : ((s.heap.push (seqObj "list" #[] 0)).update s.heap.objs.size (Obj.mapSeq (· ++ vs.toArray))).objs.size = s.heap.objs.size + 1 := by rw [Heap.size_update]; exact size_push' _ _
  have at0 : (((s.heap.push (seqObj "list" #[] 0)).update s.heap.objs.size (Obj.mapSeq (· ++ vs.toArray))).push (seqObj "list" vs.toArray 0)).get? (s.heap.objs.size + 1) = some (seqObj "list" vs.toArray 0) := e ▸ Heap.get?_push_size _ rfl
  dsimp only
  rw [e]
  exact wpAny_bind (wpAny_holding (wpAny_call_entry slot_list_sort ⟨_, at0, rfl⟩ entry_list_sort (sort_any at0 hI hz fun out ms m1 m2 m3 => ⟨_, rfl, wpAny_pure ⟨_, rfl, h out ms m1 m2 m3⟩⟩) (args_list_sort _)))
end
end Tim
namespace STb
open PySem PySem.SetTable
def Ris (xs : Array Nat) : Prop := xs.toList.Pairwise (· < ·)
theorem Ris.lt {xs : Array Nat} (h : Ris xs) {i j a b : Nat} (hij : i < j) (ha : xs[i]? = some a) (hb : xs[j]? = some b) : a < b := by
  have h' := List.pairwise_iff_getElem.mp h
  rw [← Array.getElem?_toList] at ha hb
  obtain ⟨h1, e1⟩ := List.getElem?_eq_some_iff.mp ha
  obtain ⟨h2, e2⟩ := List.getElem?_eq_some_iff.mp hb
  have := h' i j h1 h2 hij
  rw [e1, e2] at this
  exact this
theorem Ris.le {xs : Array Nat} (h : Ris xs) {i j a b : Nat} (hij : i ≤ j) (ha : xs[i]? = some a) (hb : xs[j]? = some b) : a ≤ b := by
  rcases Nat.lt_or_ge i j with z | z
  · exact Nat.le_of_lt (h.lt z ha hb)
  · have : i = j := by omega
    subst this
    rw [ha] at hb
    cases hb
    exact Nat.le_refl _
theorem go_spec {xs : Array Nat} (h : Ris xs) (j : Nat) : ∀ (fuel lo hi : Nat), hi - lo ≤ fuel → lo ≤ hi → hi ≤ xs.size →
    (∀ i y, i < lo → xs[i]? = some y → y < j) → (∀ i y, hi ≤ i → xs[i]? = some y → j ≤ y) →
    below.go xs j fuel lo hi ≤ xs.size ∧ (∀ i y, i < below.go xs j fuel lo hi → xs[i]? = some y → y < j) ∧ (∀ i y, below.go xs j fuel lo hi ≤ i → xs[i]? = some y → j ≤ y)
  | 0, lo, hi, hf, hl, hs, h1, h2 => by
    have : lo = hi := by omega
    subst this
    exact ⟨hs, h1, h2⟩
  | fuel + 1, lo, hi, hf, hl, hs, h1, h2 => by
    rw [below.go]
    by_cases hlt : lo < hi
    · rw [if_pos hlt]
      dsimp only
      have hm : (lo + hi) / 2 < xs.size := by omega
      have hg : xs[(lo + hi) / 2]? = some (xs.getD ((lo + hi) / 2) j) := by simp [Array.getD, hm]
      by_cases hc : xs.getD ((lo + hi) / 2) j < j
      · rw [if_pos hc]
        refine go_spec h j fuel _ _ (by omega) (by omega) hs (fun i y hi' e => ?_) h2
        exact Nat.lt_of_le_of_lt (h.le (by omega) e hg) hc
      · rw [if_neg hc]
        refine go_spec h j fuel _ _ (by omega) (by omega) (by omega) h1 (fun i y hi' e => ?_)
        exact Nat.le_trans (Nat.not_lt.mp hc) (h.le hi' hg e)
    · rw [if_neg hlt]
      have : lo = hi := by omega
      subst this
      exact ⟨hs, h1, h2⟩
theorem below_spec {xs : Array Nat} (h : Ris xs) (j : Nat) : below xs j ≤ xs.size ∧ (∀ i y, i < below xs j → xs[i]? = some y → y < j) ∧ (∀ i y, below xs j ≤ i → xs[i]? = some y → j ≤ y) :=
  go_spec h j xs.size 0 xs.size (by omega) (Nat.zero_le _) (Nat.le_refl _) (fun i y hi => by omega) (fun i y hi e => by
    rw [Array.getElem?_eq_none (by omega)] at e
    cases e)
theorem below_zero {xs : Array Nat} (h : Ris xs) : below xs 0 = 0 := by
  obtain ⟨h0, h1, _⟩ := below_spec h 0
  rcases Nat.eq_zero_or_pos (below xs 0) with z | z
  · exact z
  · have hlt : 0 < xs.size := by omega
    have := h1 0 xs[0] z (by simp)
    omega
theorem below_next {xs : Array Nat} (h : Ris xs) {i y : Nat} (e : xs[i]? = some y) : below xs (y + 1) = i + 1 := by
  obtain ⟨h0, h1, h2⟩ := below_spec h (y + 1)
  have hi : i < xs.size := by
    rcases Nat.lt_or_ge i xs.size with z | z
    · exact z
    · rw [Array.getElem?_eq_none z] at e; cases e
  have g1 : ¬ below xs (y + 1) ≤ i := fun z => by have := h2 i y z e; omega
  have g2 : ¬ i + 1 < below xs (y + 1) := fun z => by
    have hlt : i + 1 < xs.size := by omega
    have q := h1 (i + 1) xs[i + 1] z (by simp [hlt])
    have q' := h.lt (Nat.lt_succ_self i) e (show xs[i + 1]? = some xs[i + 1] by simp [hlt])
    omega
  omega
theorem insertAt_toList {α : Type} (xs : Array α) (p : Nat) (hp : p ≤ xs.size) (x : α) : (insertAt xs p x).toList = xs.toList.take p ++ x :: xs.toList.drop p := by
  unfold insertAt
  have e2 : (xs.extract p xs.size).toList = xs.toList.drop p := by
    rw [Array.toList_extract, List.extract_eq_drop_take]
    have : xs.size - p = (xs.toList.drop p).length := by rw [List.length_drop, Array.length_toList]
    rw [this, List.take_length]
  have e1 : (xs.extract 0 p).toList = xs.toList.take p := by
    rw [Array.toList_extract, List.extract_eq_drop_take]
    rfl
  rw [Array.toList_append, Array.toList_push, e1, e2, List.append_assoc]
  rfl
theorem put_ris {t : SetTable} (h : Ris t.place) {j : Nat} (hj : t.place[below t.place j]? ≠ some j) : Ris (t.put j).1.place := by
  obtain ⟨h0, h1, h2⟩ := below_spec h j
  unfold SetTable.put Ris
  dsimp only
  rw [insertAt_toList _ _ h0]
  have hp : (t.place.toList.take (below t.place j) ++ t.place.toList.drop (below t.place j)).Pairwise (· < ·) := by rw [List.take_append_drop]; exact h
  obtain ⟨p1, p2, p3⟩ := List.pairwise_append.mp hp
  refine List.pairwise_append.mpr ⟨p1, List.pairwise_cons.mpr ⟨fun y hy => ?_, p2⟩, fun x hx y hy => ?_⟩
  · obtain ⟨i, e⟩ := List.getElem?_of_mem hy
    rw [List.getElem?_drop, Array.getElem?_toList] at e
    have q := h2 _ y (Nat.le_add_right _ _) e
    rcases Nat.lt_or_ge j y with z | z
    · exact z
    · exfalso
      have ey : y = j := by omega
      subst ey
      cases i with
      | zero => exact hj (by simpa using e)
      | succ i =>
        have hlt : below t.place y < t.place.size := by
          rcases Nat.lt_or_ge (below t.place y + (i + 1)) t.place.size with z | z
          · omega
          · rw [Array.getElem?_eq_none z] at e; cases e
        have q1 := h2 (below t.place y) t.place[below t.place y] (Nat.le_refl _) (by simp)
        have q2 := h.lt (show below t.place y < below t.place y + (i + 1) by omega) (show t.place[below t.place y]? = some t.place[below t.place y] by simp) e
        omega
  · have hx' : x < j := by
      obtain ⟨i, e⟩ := List.getElem?_of_mem hx
      rw [List.getElem?_take] at e
      split at e
      · rename_i hi
        rw [Array.getElem?_toList] at e
        exact h1 i x hi e
      · cases e
    rcases List.mem_cons.mp hy with rfl | hy
    · exact hx'
    · exact p3 x hx y hy
def NotLive (t : SetTable) (j : Nat) : Prop := t.place[below t.place j]? ≠ some j
theorem slot_notlive {t : SetTable} {j : Nat} (h : ∀ i, t.slot j ≠ .live i) : NotLive t j := by
  intro e
  unfold SetTable.slot at h
  dsimp only at h
  rw [if_pos (by rw [e]; simp)] at h
  exact h _ rfl
theorem probe_go {t : SetTable} {h : Int} : ∀ (fuel : Nat) (p : Probe) (j : Nat) (d : Option Nat), (∀ x, p.dummy = some x → NotLive t x) → probe.go t (fun _ => h + 1) h fuel p = some (.empty j d) → NotLive t j ∧ ∀ x, d = some x → NotLive t x
  | 0, p, j, d, _, e => by rw [probe.go] at e; cases e
  | fuel + 1, p, j, d, hp, e => by
    rw [probe.go] at e
    cases hs : t.slot p.j with
    | empty =>
      rw [hs] at e
      cases e
      exact ⟨slot_notlive (fun i z => by rw [hs] at z; exact (nomatch z)), hp⟩
    | dummy =>
      rw [hs] at e
      refine probe_go fuel _ j d (fun x hx => ?_) e
      have : (t.advance { p with dummy := some p.j }).dummy = some p.j := by unfold SetTable.advance; dsimp only; split <;> rfl
      rw [this] at hx
      cases hx
      exact slot_notlive fun i z => by rw [hs] at z; cases z
    | live i =>
      rw [hs] at e
      dsimp only at e
      rw [if_neg (by simp; omega)] at e
      refine probe_go fuel _ j d (fun x hx => hp x ?_) e
      have : (t.advance p).dummy = p.dummy := by unfold SetTable.advance; dsimp only; split <;> rfl
      rw [this] at hx
      exact hx
theorem free_notlive {t : SetTable} {h : Int} {j : Nat} {b : Bool} (e : t.freeSlot h = some (j, b)) : NotLive t j := by
  unfold SetTable.freeSlot at e
  split at e
  · rename_i k d hd
    cases e
    obtain ⟨q1, q2⟩ := probe_go _ _ _ _ (by intro x hx; cases hx) hd
    cases d with
    | none => exact q1
    | some x => exact q2 x rfl
  · cases e
theorem range_ris (n : Nat) : Ris (Array.range n) := by
  unfold Ris
  rw [Array.toList_range]
  exact List.pairwise_lt_range
theorem standIn_ris (t : SetTable) (n : Nat) : Ris (t.standIn n).place := range_ris n
theorem layNew_ris {t : SetTable} {es : Array (Int × Value)} {h : Int} {x : Value} (hr : Ris t.place) : Ris (layNew t es h x).2.1.place ∧ (layNew t es h x).2.1.led = t.led := by
  unfold layNew
  split
  · rename_i slot wd e
    dsimp only
    unfold SetTable.orStandIn
    split
    · exact ⟨put_ris hr (free_notlive e), rfl⟩
    · exact ⟨standIn_ris _ _, rfl⟩
  · exact ⟨standIn_ris _ _, rfl⟩
theorem laid_ris {mask finger moves : Nat} {led plain : Bool} {hashes : Array Int} {t : SetTable} {o : Array Nat} (e : laid mask finger moves led plain hashes = some (t, o)) : Ris t.place ∧ t.led = led := by
  unfold laid at e
  cases hc : layClean mask hashes with
  | none => rw [hc] at e; cases e
  | some owner =>
    rw [hc] at e
    have e' := Option.some.inj e
    have e1 := congrArg Prod.fst e'
    dsimp only at e1
    subst e1
    refine ⟨?_, rfl⟩
    unfold Ris
    dsimp only
    have key : ∀ l : List Nat, l.Pairwise (· < ·) → ((l.filterMap fun j => (owner.getD j none).map (j, ·)).map (·.1)).Pairwise (· < ·) := by
      intro l
      induction l with
      | nil => intro _; exact List.Pairwise.nil
      | cons a r ih =>
        intro hp
        obtain ⟨h1, h2⟩ := List.pairwise_cons.mp hp
        rw [List.filterMap_cons]
        split
        · exact ih h2
        · rename_i b hb
          rw [List.map_cons]
          refine List.pairwise_cons.mpr ⟨fun y hy => ?_, ih h2⟩
          have hb' : b.1 = a := by
            cases hq : owner.getD a none with
            | none => rw [hq] at hb; cases hb
            | some z => rw [hq] at hb; cases hb; rfl
          rw [hb']
          obtain ⟨q, hq, rfl⟩ := List.mem_map.mp hy
          obtain ⟨z, hz, e⟩ := List.mem_filterMap.mp hq
          have : q.1 = z := by
            cases hq2 : owner.getD z none with
            | none => rw [hq2] at e; cases e
            | some v => rw [hq2] at e; cases e; rfl
          rw [this]
          exact h1 z hz
    simpa using key (List.range (mask + 1)) List.pairwise_lt_range
theorem relayAll_ris {t : SetTable} {es : Array (Int × Value)} {wanted : Nat} : Ris (relayAll t es wanted).2.1.place ∧ (relayAll t es wanted).2.1.led = t.led := by
  unfold relayAll
  split
  · rename_i t' order e
    dsimp only
    split
    · unfold SetTable.relaid at e
      exact laid_ris e
    · exact ⟨standIn_ris _ _, rfl⟩
  · exact ⟨standIn_ris _ _, rfl⟩
end STb
namespace STb
open PySem PySem.SetTable PyProof.Rows
def kI : Value → Option Int
  | .int n _ => some n
  | _ => none
theorem kI_is {prog : Program} {w : World} {k : Int} {v : Value} : (intKind prog w).is k v = true ↔ kI v = some k := by
  constructor
  · intro h
    cases v <;> first
      | (rename_i n t; have : n = k := by simpa [intKind, Value.isInt] using h
         rw [this]; rfl)
      | (exfalso; simp [intKind, Value.isInt] at h)
  · intro h
    cases v <;> first
      | (rename_i n t; cases h; exact intKind_is _ _ _ _)
      | cases h
def RS (prog : Program) (w : World) (h : Heap) (a : Addr) (ns : List Int) : Prop :=
  ∃ es ep t, h.get? a = some { cls := .type "set", dict := none, data := .set es ep t } ∧ ElemsOf (intKind prog w) es.toList ∧ (es.toList.map fun e => kI e.2).Perm (ns.map some) ∧ es.size < scanBound ∧ t.fits es.size = true ∧
    Ris t.place ∧ t.led = !w.params.followText "set-order" ∧ ns.Nodup
theorem RS.keep {prog : Program} {w : World} {h h' : Heap} {a : Addr} {ns : List Int} (r : RS prog w h a ns) (k : ∀ o, h.get? a = some o → h'.get? a = some o) : RS prog w h' a ns := by
  obtain ⟨es, ep, t, e, q⟩ := r
  exact ⟨es, ep, t, k _ e, q⟩
theorem RS.len {prog : Program} {w : World} {h : Heap} {a : Addr} {ns : List Int} (r : RS prog w h a ns) : ns.length < scanBound := by
  obtain ⟨es, ep, t, e, _, p, b, _⟩ := r
  have := p.length_eq
  rw [List.length_map, List.length_map, Array.length_toList] at this
  omega
def addTo (ns : List Int) (n : Int) : List Int := if n ∈ ns then ns else ns ++ [n]
theorem addTo_nd {ns : List Int} {n : Int} (h : ns.Nodup) : (addTo ns n).Nodup := by
  unfold addTo
  split
  · exact h
  · rename_i hn
    exact List.nodup_append.mpr ⟨h, by simp, fun a ha b hb e => hn (by simp at hb; rw [← hb, ← e]; exact ha)⟩
theorem addTo_mem {ns : List Int} {n k : Int} : k ∈ addTo ns n ↔ k ∈ ns ∨ k = n := by
  unfold addTo
  split
  · rename_i hn
    exact ⟨.inl, fun h => h.elim id fun e => e ▸ hn⟩
  · simp
theorem addTo_len (ns : List Int) (n : Int) : (addTo ns n).length ≤ ns.length + 1 := by
  unfold addTo
  split
  · omega
  · simp
section
variable {prog : Program} {w : World} {A : Around} {E : Value → Shared → Prop} {s : Shared} {a : Addr}
theorem add_ok {ns : List Int} {n : Int} {tk : Tok} {Q : Bool → Shared → Prop} (r : RS prog w s.heap a ns) (room : ns.length + 1 < scanBound)
    (h : ∀ b h', Heap.SameBut a s.heap h' → RS prog w h' a (addTo ns n) → Q b { s with heap := h' }) :
    wpAny (model prog w) A (setAddHashed a (.int n tk) ((intKind prog w).hash n)) Q E s := by
  obtain ⟨es, ep, t, ho, el, pm, bd, ft, rs, ld, nd⟩ := r
  have hsz : es.size = ns.length := by
    have := pm.length_eq
    rwa [List.length_map, List.length_map, Array.length_toList] at this
  have hkey : (intKind prog w).is n (.int n tk) = true := intKind_is _ _ _ _
  have memk : ∀ k : Int, k ∈ ns ↔ ∃ e ∈ es.toList, (intKind prog w).is k e.2 = true := fun k => by
    have : k ∈ ns ↔ some k ∈ ns.map some := by simp
    rw [this, ← pm.mem_iff, List.mem_map]
    exact ⟨fun ⟨e, he, q⟩ => ⟨e, he, kI_is.mpr q⟩, fun ⟨e, he, q⟩ => ⟨e, he, kI_is.mp q⟩⟩
  unfold setAddHashed setAddHashedIn
  refine wpAny_holding (wpAny_bind (wpAny_setState_of ho rfl ft ?_))
  dsimp only
  rw [byScan_of (x := .int n tk) rfl bd el]
  simp only [if_true]
  unfold setAddByScan
  refine wpAny_bind (wpAny_bind (wpAny_rule (wpAny_bind (wpAny_setScan_of hkey ho rfl ft el ?_))))
  cases hr : List.findIdx? (fun e => (intKind prog w).is n e.2) es.toList with
  | some j =>
    dsimp only
    obtain ⟨hj, hpj, _⟩ := List.findIdx?_eq_some_iff_getElem.mp hr
    have hin : n ∈ ns := (memk n).mpr ⟨_, List.getElem_mem hj, hpj⟩
    refine wpAny_pure (wpAny_pure ?_)
    have q := h false s.heap (Heap.SameBut.refl a s.heap) (by rw [show addTo ns n = ns from if_pos hin]; exact ⟨es, ep, t, ho, el, pm, bd, ft, rs, ld, nd⟩)
    exact q
  | none =>
    dsimp only
    have hnot : ¬ n ∈ ns := fun z => by
      obtain ⟨e, he, q⟩ := (memk n).mp z
      have := List.findIdx?_eq_none_iff.mp hr e he
      rw [q] at this
      cases this
    have pN := layNew_perm t es ((intKind prog w).hash n) (.int n tk)
    have fN := layNew_fits t es ((intKind prog w).hash n) (.int n tk)
    have rN := layNew_ris (es := es) (h := (intKind prog w).hash n) (x := .int n tk) rs
    generalize layNew t es ((intKind prog w).hash n) (.int n tk) = L at pN fN rN ⊢
    obtain ⟨e1, t1, wd, gv⟩ := L
    dsimp only at pN fN rN ⊢
    rw [Array.toList_push] at pN
    have el1 : ElemsOf (intKind prog w) e1.toList := (el.push hkey rfl).perm pN
    have pm1 : (e1.toList.map fun e => kI e.2).Perm ((addTo ns n).map some) := by
      rw [show addTo ns n = ns ++ [n] from if_neg hnot, List.map_append]
      refine (pN.map fun e => kI e.2).trans ?_
      rw [List.map_append]
      exact pm.append (List.Perm.refl _)
    have sz1 : e1.size = es.size + 1 := by
      rw [← Array.length_toList, pN.length_eq, List.length_append, Array.length_toList]
      rfl
    have bd1 : e1.size < scanBound := by omega
    have nd1 := addTo_nd (n := n) nd
    have gw : ∀ (b : Bool) (s₁ : Shared) (Q' : Unit → Shared → Prop), Q' () s₁ → wpAny (model prog w) A (match b with | true => rule "set.scan.the-table-gave-way" | false => pure ()) Q' E s₁ := fun b s₁ Q' q => by
      cases b
      · exact wpAny_pure q
      · exact wpAny_rule q
    refine wpAny_bind (gw gv _ _ ?_)
    have tail : ∀ t2 : SetTable, t2.fits e1.size = true → Ris t2.place → t2.led = t.led → wpAny (model prog w) A (do
        storeSet a e1 t2
        if (!wd && t2.tooFull) = true then do
            (match (relayAll t2 e1 (SetTable.grown e1.size)).2.2 with | true => rule "set.scan.the-table-gave-way" | false => pure ())
            storeSet a (relayAll t2 e1 (SetTable.grown e1.size)).1 (relayAll t2 e1 (SetTable.grown e1.size)).2.1
            pure (some true)
          else pure (some true)) (fun r s' => ∃ b, r = some b ∧ Q b s') E s := fun t2 f2 r2 l2 => by
      refine wpAny_bind (wpAny_storeSet_of ho rfl ?_ (fits_of_scanBound bd1))
      have g1 : (s.heap.update a (Obj.putSet e1 t2)).get? a = some { cls := .type "set", dict := none, data := .set e1 (ep + 1) t2 } := Heap.get?_update_self (Obj.putSet e1 t2) ho rfl
      have sb1 := Heap.SameBut.update s.heap a (Obj.putSet e1 t2)
      split
      · have pR := relayAll_perm t2 e1 (SetTable.grown e1.size)
        have fR := relayAll_fits t2 e1 (SetTable.grown e1.size)
        have rR := relayAll_ris (t := t2) (es := e1) (wanted := SetTable.grown e1.size)
        generalize relayAll t2 e1 (SetTable.grown e1.size) = L2 at pR fR rR ⊢
        obtain ⟨e3, t3, g3⟩ := L2
        dsimp only at pR fR rR ⊢
        have sz3 : e3.size = e1.size := by rw [← Array.length_toList, pR.length_eq, Array.length_toList]
        refine wpAny_bind (gw g3 _ _ (wpAny_bind (wpAny_storeSet_of g1 rfl ?_ (fits_of_scanBound (by omega)))))
        exact wpAny_pure ⟨true, rfl, h true _ (sb1.trans (Heap.SameBut.update _ a _)) ⟨e3, _, t3, Heap.get?_update_self (Obj.putSet e3 t3) g1 rfl, el1.perm pR, (pR.map _).trans pm1, by omega, fR, rR.1, by rw [rR.2, l2]; exact ld, nd1⟩⟩
      · exact wpAny_pure ⟨true, rfl, h true _ sb1 ⟨e1, _, t2, g1, el1, pm1, bd1, f2, r2, by rw [l2]; exact ld, nd1⟩⟩
    have fin : ∀ (r : Option Bool) (s' : Shared), (∃ b, r = some b ∧ Q b s') → wpAny (model prog w) A (match r with | some added => pure added | none => setAddHashedIn a (.int n tk) ((intKind prog w).hash n) 99999) Q E s' := fun r s' ⟨b, e, q⟩ => by
      subst e
      exact wpAny_pure q
    split
    · refine wpAny_bind ?_
      rw [hashByValue_scannable 8 (x := .int n tk) rfl]
      refine wpAny_pure ?_
      refine wpAny_mono (tail t1 fN rN.1 rN.2) (fun r s' q => ?_) fun _ _ z => z
      exact fin r s' q
    · refine wpAny_bind (wpAny_pure ?_)
      refine wpAny_mono (tail t1 fN rN.1 rN.2) (fun r s' q => ?_) fun _ _ z => z
      exact fin r s' q
end
end STb
namespace STb
open PySem PySem.SetTable PyProof.Rows
def metBy (val : Nat → Int) (i : Nat) : List Int := ((List.range i).map val).foldl addTo []
theorem metBy_succ (val : Nat → Int) (i : Nat) : metBy val (i + 1) = addTo (metBy val i) (val i) := by
  unfold metBy
  rw [List.range_succ, List.map_append, List.foldl_append]
  rfl
theorem metBy_len (val : Nat → Int) : ∀ i, (metBy val i).length ≤ i
  | 0 => Nat.zero_le _
  | i + 1 => by
    rw [metBy_succ]
    have h1 := addTo_len (metBy val i) (val i)
    have h2 := metBy_len val i
    omega
theorem metBy_mem (val : Nat → Int) (k : Int) : ∀ i, k ∈ metBy val i ↔ ∃ j, j < i ∧ val j = k
  | 0 => by simp [metBy]
  | i + 1 => by
    rw [metBy_succ, addTo_mem, metBy_mem val k i]
    constructor
    · rintro (⟨j, hj, e⟩ | e)
      · exact ⟨j, by omega, e⟩
      · exact ⟨i, by omega, e.symm⟩
    · rintro ⟨j, hj, e⟩
      by_cases z : j = i
      · exact .inr (by rw [← e, z])
      · exact .inl ⟨j, by omega, e⟩
section
variable {prog : Program} {w : World} {A : Around} {R : Result → Shared → Prop} {I : Addr} {fp wr : List Addr} {G : Array GenState → Array GenState → Prop} {n : Nat} {P : Nat → Value → Prop} {St : Nat → Shared → Prop}
theorem fill_loop (W : WalksS prog w A.in1 I fp wr G n P St) (S : Addr) (out : S ∉ fp) (val : Nat → Int) (hv : ∀ i v, P i v → ∃ t, v = .int (val i) t) (room : ∀ i, i ≤ n → (metBy val i).length + 1 < scanBound) :
    ∀ (k i : Nat) (s : Shared), n - i = k → i ≤ n → St i s → RS prog w s.heap S (metBy val i) →
      (∀ s', Moved (S :: wr) G s s' → RS prog w s'.heap S (metBy val n) → R (.ok (.ret .none)) s') → codeAny (model prog w) A (.builtin "set.update.loop" ⟨[.ref S, .ref I], []⟩) R s := by
  have nw : S ∉ wr := fun z => out (W.sub _ z)
  have sub : ∀ b ∈ wr, b ∈ S :: wr := fun b z => List.mem_cons_of_mem _ z
  intro k
  induction k with
  | zero =>
    intro i s hk hi st r fin
    have : i = n := by omega
    subst this
    refine codeAny_builtin F.entry_set_update_loop ?_
    rw [Around.under_plainId F.plain_set_update_loop _]
    refine wpAny_bind (m := pyNext (.ref I)) (W.done s _ _ st fun s' mv => ?_)
    exact wpAny_pure (fin s' (mv.mono sub) (r.keep fun o e => mv.heap S o nw e))
  | succ k ih =>
    intro i s hk hi st r fin
    have hlt : i < n := by omega
    refine codeAny_builtin F.entry_set_update_loop ?_
    rw [Around.under_plainId F.plain_set_update_loop _]
    refine wpAny_bind (m := pyNext (.ref I)) (W.item i s _ _ hlt st fun v s' pv st' mv => ?_)
    obtain ⟨t, rfl⟩ := hv i v pv
    have r' := r.keep (h' := s'.heap) fun o e => mv.heap S o nw e
    show wpAny _ A.in1 (holding [Value.int (val i) t] (setAdd S (.int (val i) t)) >>= _) _ _ s'
    refine wpAny_bind (wpAny_holding ?_)
    unfold setAdd
    refine wpAny_holding (wpAny_bind ((intKind prog w).pyHash (k := val i) (intKind_is _ _ _ _) ?_))
    refine add_ok (s := { s' with toks := s'.toks + 1 }) r' (room i hi) fun b h' sb r2 => ?_
    refine wpAny_pure ⟨plainId_quiet F.plain_set_update_loop _, ih (i + 1) _ (by omega) hlt (W.frame _ s' _ _ st' (Nat.le_succ _) fun b hb o e => ?_) (by rw [metBy_succ]; exact r2) fun s2 mv2 r3 => ?_⟩
    · rw [sb.2 b fun z => out (z ▸ hb)]; exact e
    · refine fin s2 (Moved.trans W.gtrans ((mv.mono sub).then_heap (Nat.le_succ _) fun b o hb e => ?_) mv2) r3
      rw [sb.2 b fun z => hb (z ▸ List.mem_cons_self)]; exact e
end
section
variable {prog : Program} {w : World} {A : Around} {E : Value → Shared → Prop} {s : Shared}
abbrev setObj (b : Bool) : Obj := { cls := .type "set", dict := none, data := .set #[] 0 (.fresh 0 0 b) }
theorem rs_fresh {h : Heap} {a : Addr} (e : h.get? a = some (setObj (!w.params.followText "set-order"))) : RS prog w h a [] :=
  ⟨#[], 0, _, e, fun _ z => by simp at z, List.Perm.refl _, by show 0 < 4096; decide, rfl, List.Pairwise.nil, rfl, List.nodup_nil⟩
theorem set_new (v : Value) {Q₁ : Value → Shared → Prop} (h : Q₁ (.ref s.heap.objs.size) { s with heap := s.heap.push (setObj (!w.params.followText "set-order")) }) :
    codeAny (model prog w) A (.call (.builtin "set.__new__") ⟨[.type "set", v], []⟩) (wants Q₁ E) s := by
  refine codeAny_of_tree ?_
  refine wpAny_bind (m := checkBuiltinCall "set.__new__" ⟨[.type "set", v], []⟩) (wpAny_of_eq (F.newCall_set_1 v) (wpAny_pure ⟨plainId_quiet F.plain_set_new _, codeAny_builtin F.entry_set_new ?_⟩))
  rw [Around.under_plainId F.plain_set_new _]
  unfold Builtin.«set.__new__» Builtin.Frozenset.newClass
  have sub0 := sub_set_self
  obtain ⟨hp, g, d, tk, os⟩ := s
  dsimp only
  wp_walk
  refine wpAny_askSetting (wpAny_pure ?_)
  dsimp only
  simp only [newObj]
  exact wpAny_bind (wpAny_alloc (wpAny_pure (wpAny_pure h)))
set_option maxHeartbeats 3200000 in
theorem call_setR {l : Addr} {its : Array Value} {ns : List Int} {Q : Value → Shared → Prop} (hh : A.handled = none) (hl : s.heap.IsList l its) (hi : IntsAre its.toList ns) (room : ∀ i, i ≤ its.size → (metBy (fun i => ns.getD i 0) i).length + 1 < scanBound)
    (h : ∀ (h' : Heap) (tk : Nat), RS prog w h' s.heap.objs.size (metBy (fun i => ns.getD i 0) its.size) → (∀ b o, b < s.heap.objs.size → s.heap.get? b = some o → h'.get? b = some o) → Q (.ref s.heap.objs.size) { s with heap := h', toks := tk }) :
    wpAny (model prog w) A (call (.type "set") [.ref l]) Q E s := by
  obtain ⟨c, tl, mro⟩ := F.called_set.mro
  have made := F.called_set.made
  have sub1 := F.called_set.sub
  refine wpAny_call (codeAny_of_tree (wpAny_pure ⟨Code.quiet_builtin _ (by decide +kernel), codeAny_builtin F.entry_type_call ?_⟩))
  rw [Around.under_plain (weight_type_call_type "set" [.ref l] []) rfl]
  have nt := F.called_set.notType
  have cc := F.called_set.canCreate
  have tc := F.typeCall_set_1 (.ref l)
  repeat (any_goals (first | assumption | wp_step))
  refine codeAny_mono (set_new (.ref l) (E := E) (Q₁ := fun obj s₁ => obj = .ref s.heap.objs.size ∧ s₁ = { s with heap := s.heap.push (setObj (!w.params.followText "set-order")) }) ⟨rfl, rfl⟩) fun r s₁ hr => ?_
  cases r with
  | error e => exact hr
  | ok fl =>
    cases fl with
    | ret obj =>
      obtain ⟨rfl, rfl⟩ := hr
      have g0 : (s.heap.push (setObj (!w.params.followText "set-order"))).get? s.heap.objs.size = some (setObj (!w.params.followText "set-order")) := Heap.get?_push_size _ rfl
      have ty : Shared.TypeIs { s with heap := s.heap.push (setObj (!w.params.followText "set-order")) } (.ref s.heap.objs.size) "set" := ⟨_, g0, rfl⟩
      have li := F.called_set.init.lookup
      have bi := F.called_set.init.bind (.ref s.heap.objs.size)
      repeat (any_goals (first | assumption | wp_step))
      refine codeAny_mono (codeAny_call_builtin (R := wants (fun r s₂ => r = .none ∧ ∃ h' tk, s₂ = { s with heap := h', toks := tk } ∧ RS prog w h' s.heap.objs.size (metBy (fun i => ns.getD i 0) its.size) ∧
          (∀ b o, b < s.heap.objs.size → s.heap.get? b = some o → h'.get? b = some o)) E) F.called_set.init.plain F.entry_set_init (check_set_init_1 ty ?_)) fun r₂ s₂ hr₂ => ?_
      · obtain ⟨⟨oc, od, ot, osl⟩, e0, ec, nl, ed⟩ := hl
        simp only at ec ed
        subst ec ed
        have e1 : (s.heap.push (setObj (!w.params.followText "set-order"))).get? l = some ⟨.type "list", od, .seq its nl, osl⟩ := Heap.get?_push_of_some _ e0
        have q1 := F.sub_list_set
        have q2 := F.sub_list_frozenset
        have q3 : (Value.type "list" == Value.type "dict") = false := by decide
        have il : (s.heap.push (setObj (!w.params.followText "set-order"))).IsList l its := ⟨_, e1, rfl, nl, rfl⟩
        unfold Builtin.«set.__init__» noKeywords Builtin.Frozenset.updateFrom
        generalize pI : pyIter = PIt
        wp_walk
        subst pI
        refine wpAny_pyIter_list il (wpAny_bind (wpAny_runValue ?_))
        have hlt : l < s.heap.objs.size := Heap.lt_size e0
        have hh3 : A.in1.in1.in1.handled = none := by simp [hh]
        have ne1 : l ≠ (s.heap.push (setObj (!w.params.followText "set-order"))).objs.size := by
          rw [Heap.size_push]
          exact Nat.ne_of_lt (Nat.lt_succ_of_lt hlt)
        have ne2 : s.heap.objs.size ∉ [(s.heap.push (setObj (!w.params.followText "set-order"))).objs.size, l] := by
          rw [Heap.size_push]
          simp only [List.mem_cons, List.not_mem_nil, or_false, not_or]
          exact And.intro (Nat.ne_of_lt (Nat.lt_succ_self _)) (Nat.ne_of_gt hlt)
        refine fill_loop ((Walks.list hh3 _ l ne1 its).toS) s.heap.objs.size ne2 (fun i => ns.getD i 0) (fun i v e => IntsAre.int_at hi i v (by rw [Array.getElem?_toList]; exact e)) room (its.size - 0) 0 _ (by omega) (Nat.zero_le _)
          ⟨⟨_, Heap.get?_push_size _ rfl, rfl, rfl⟩, il.push _⟩ (rs_fresh (Heap.get?_push_of_some _ g0)) ?_
        intro s' mv r'
        obtain ⟨h', g', d', tk', os'⟩ := s'
        have eg : g' = s.gens := mv.gens
        have ed : d' = s.drawn := mv.drawn
        have eo : os' = s.os := mv.os
        subst eg ed eo
        refine wpAny_pure (wpAny_pure ⟨rfl, h', tk', rfl, r', fun b o hb e => ?_⟩)
        refine mv.heap b o ?_ (Heap.get?_push_of_some _ (Heap.get?_push_of_some _ e))
        rw [Heap.size_push]
        simp only [List.mem_cons, List.not_mem_nil, or_false, not_or]
        exact And.intro (Nat.ne_of_lt hb) (Nat.ne_of_lt (Nat.lt_succ_of_lt hb))
      · cases r₂ with
        | error e => exact hr₂
        | ok fl₂ =>
          cases fl₂ with
          | ret r =>
            obtain ⟨rfl, h', tk, rfl, r', kp⟩ := hr₂
            repeat (any_goals (first | assumption | wp_step))
            exact h _ _ r' kp
          | _ => exact hr₂.elim
    | _ => exact hr.elim
end
end STb
namespace STb
open PySem PySem.SetTable PyProof.Rows
theorem it_slot : Slot "set_iterator" "__next__" "set_iterator.__next__" :=
  Slot.of (owner := "set_iterator") (n := "__next__") (by (rw [typeLookup_type, builtinLookup_eq_fast]); kernel_rfl) (by decide +kernel) (by decide +kernel) (by decide +kernel) (by first | (exact Or.inl (by decide +kernel)) | (exact Or.inr (by decide +kernel))) (by (rw [isSubtype_type]); kernel_rfl)
theorem it_entry : entryFor table "set_iterator.__next__" = some Builtin.«set_iterator.__next__» := entryFor_of_tree (by kernel_rfl)
theorem it_args (a : Value) : argsOk "set_iterator.__next__" ⟨[a], []⟩ := by unfold argsOk; kernel_rfl
theorem iter_entry : entryFor table "set.__iter__" = some Builtin.«frozenset.__iter__» := entryFor_alias (id' := "frozenset.__iter__") (by kernel_rfl) (by decide +kernel) (by decide +kernel) (by kernel_rfl)
theorem erase_perm {α : Type} : ∀ (l : List α) (i : Nat) (h : i < l.length), (l[i] :: l.eraseIdx i).Perm l
  | [], i, h => by cases h
  | x :: r, 0, h => List.Perm.refl _
  | x :: r, i + 1, h => (List.Perm.swap _ _ _).trans (List.Perm.cons _ (erase_perm r i (Nat.lt_of_succ_lt_succ h)))
theorem set_len_look : typeLookup (.type "set") "__len__" = pure (some (.builtin "set.__len__")) := by (rw [typeLookup_type, builtinLookup_eq_fast]); kernel_rfl
theorem set_sub_set : isSubtype (.type "set") (.type "set") = pure true := by (rw [isSubtype_type]); kernel_rfl
theorem go_perm {α : Type} (nx : Nat → Nat) : ∀ (fuel k : Nat) (left : List α) (out : Array α), left.length = fuel → (pickOrder.go nx fuel k left out).toList.Perm (out.toList ++ left)
  | 0, k, left, out, h => by
    rw [pickOrder.go]
    rw [List.length_eq_zero_iff.mp h, List.append_nil]
  | fuel + 1, k, left, out, h => by
    rw [pickOrder.go]
    have hlt : nx k % left.length < left.length := Nat.mod_lt _ (by omega)
    rw [List.getElem?_eq_getElem hlt]
    dsimp only
    refine (go_perm nx fuel (k + 1) _ _ (by rw [List.length_eraseIdx_of_lt hlt]; omega)).trans ?_
    rw [Array.toList_push, List.append_assoc]
    refine List.Perm.append_left _ ?_
    exact erase_perm left _ hlt
theorem pick_perm {α : Type} (nx : Nat → Nat) (xs : Array α) : (pickOrder nx xs).toList.Perm xs.toList := by
  have := go_perm nx xs.size 0 xs.toList #[] (by simp)
  simpa [pickOrder] using this
section
variable {prog : Program} {w : World} {A : Around} {E : Value → Shared → Prop} {s : Shared}
theorem choose_ok {src : Source} {n : Nat} {Q : Nat → Shared → Prop} (hn : n ≠ 0) (h : ∀ i d, i < n → Q i { s with drawn := d }) : wpAny (model prog w) A (choose src n) Q E s :=
  fun Γ p _ => ⟨hn, h _ _ (Nat.mod_lt _ (Nat.pos_of_ne_zero hn))⟩
theorem draw_ok : ∀ (n : Nat) (xs : List Nat) (s : Shared) (Q : List Nat → Shared → Prop), xs.length = n → (∀ ys d, ys.Perm xs → Q ys { s with drawn := d }) → wpAny (model prog w) A (drawOrder n xs) Q E s
  | 0, xs, s, Q, h, q => by
    rw [List.length_eq_zero_iff.mp h] at q ⊢
    exact wpAny_pure (q [] s.drawn (List.Perm.refl _))
  | n + 1, [], s, Q, h, q => by cases h
  | n + 1, x :: r, s, Q, h, q => by
    refine wpAny_bind (m := choose .order (x :: r).length) (choose_ok (by simp) fun i d hi => ?_)
    rw [List.getElem?_eq_getElem hi]
    dsimp only
    refine wpAny_bind (draw_ok n ((x :: r).eraseIdx i) _ _ (by rw [List.length_eraseIdx_of_lt hi]; simp at h ⊢; exact h) fun ys d' hp => ?_)
    exact wpAny_pure (q _ d' ((List.Perm.cons _ hp).trans (erase_perm _ _ hi)))
theorem byText_ok {Q : Bool → Shared → Prop} (h : Q (w.params.followText "set-order") s) : wpAny (model prog w) A setsByText Q E s := by
  unfold setsByText
  exact wpAny_bind (wpAny_askSetting (wpAny_pure h))
end
end STb
namespace STb
open PySem PySem.SetTable PyProof.Rows
abbrev itObj (first : Value) (i : Nat) (S : Addr) (n ep : Nat) : Obj := { cls := .type "set_iterator", data := .fields #[first, .int i 0, .ref S, .int n 0, .int ep 0] }
abbrev stObj (es : Array (Int × Value)) (ep : Nat) (t : SetTable) : Obj := { cls := .type "set", dict := none, data := .set es ep t }
section
variable {prog : Program} {w : World} {A : Around} {E : Value → Shared → Prop} {s : Shared} {I S : Addr} {es : Array (Int × Value)} {ep : Nat} {t : SetTable}
theorem entries_ok {Q : Array (Int × Value) → Shared → Prop} (ho : s.heap.get? S = some (stObj es ep t)) (hf : t.fits es.size = true) (h : Q es s) : wpAny (model prog w) A (setEntries S) Q E s := by
  unfold setEntries
  exact wpAny_bind (wpAny_setState_of ho rfl hf (wpAny_pure h))
end
end STb
namespace STb
open PySem PySem.SetTable PyProof.Rows
section
variable {prog : Program} {w : World} {A : Around} {E : Value → Shared → Prop} {s : Shared} {I S : Addr} {es : Array (Int × Value)} {ep : Nat} {t : SetTable}
theorem stop_ok {α : Type} {Q : α → Shared → Prop} {E' : Value → Shared → Prop} (hh : A.handled = none)
    (h : ∀ h' e, (∀ b o, s.heap.get? b = some o → h'.get? b = some o) → Shared.TypeIs { s with heap := h' } (.ref e) "StopIteration" → E' (.ref e) { s with heap := h' }) :
    wpAny (model prog w) A (do raiseNew (← newExc (.type "StopIteration") []) : Sem α) Q E' s := by
  refine wpAny_bind ?_
  simp only [newExc, newTuple]
  refine wpAny_bind (wpAny_newObj_type ?_ (by size_fits))
  refine wpAny_bind (m := firstArgMember _ _) (wpAny_of_eq (a := Value.none) (by first | rfl | (simp only [firstArgMember]; rfl)) ?_)
  refine wpAny_newObj_type ?_ (by size_fits)
  simp only [raiseNew]
  refine wpAny_bind (wpAny_handled ?_)
  rw [hh]
  refine wpAny_bind (wpAny_pure (wpAny_throw ?_))
  exact h _ _ (fun b o e => Heap.get?_push_of_some _ (Heap.get?_push_of_some _ e)) ⟨_, Heap.get?_push_size _ rfl, rfl⟩
theorem next_int_end {slot : Nat} {i : Nat} {Q : Option Value → Shared → Prop} (hh : A.handled = none) (hI : s.heap.get? I = some (itObj (.int slot 0) i S es.size ep)) (hS : s.heap.get? S = some (stObj es ep t)) (hf : t.fits es.size = true)
    (hn : ∀ (A' : Around) (E' : Value → Shared → Prop) (Q' : Option (Value × Nat) → Shared → Prop), Q' none s → wpAny (model prog w) A' (setNext S slot i ep) Q' E' s)
    (h : ∀ h', (∀ b o, b ≠ I → s.heap.get? b = some o → h'.get? b = some o) → Q none { s with heap := h' }) : wpAny (model prog w) A (pyNext (.ref I)) Q E s := by
  have ty : s.TypeIs (.ref I) "set_iterator" := ⟨_, hI, rfl⟩
  unfold pyNext
  refine wpAny_bind (wpAny_attempt (wpAny_callSpecial?_slot (name := Str.ofString "__next__") ty it_slot (wpAny_call_entry it_slot ty it_entry ?_ (it_args _))))
  unfold Builtin.«set_iterator.__next__»
  refine wpAny_bind (m := slotArgs "__next__" 0 ⟨[.ref I], []⟩) (wpAny_pure (wpAny_bind (wpAny_fieldsOf hI rfl ?_)))
  refine wpAny_bind (m := setEntries S) (entries_ok hS hf ?_)
  rw [if_neg (by simp)]
  refine wpAny_bind (m := setNext S (slot : Int).toNat (i : Int).toNat (ep : Int).toNat) (hn _ _ _ ?_)
  refine wpAny_bind (wpAny_setField hI rfl (by simp) ?_)
  refine stop_ok (by first | exact hh | simp [hh]) fun h' e kp tye => ?_
  refine wpAny_bind (wpAny_isInstance (T := "StopIteration") (b := true) tye isSubtype_stop ?_)
  exact wpAny_pure (h _ fun b o hb q => kp b o ((Heap.get?_update_other _ _ (Ne.symm hb)).trans q))
theorem next_tup {T : Addr} {places : Array Value} {pn : Nat} {i p : Nat} {tk : Tok} {Q : Option Value → Shared → Prop} (hI : s.heap.get? I = some (itObj (.ref T) i S es.size ep)) (hT : s.heap.get? T = some { cls := .type "tuple", data := .seq places pn })
    (hS : s.heap.get? S = some (stObj es ep t)) (hf : t.fits es.size = true) (hp : places[i]? = some (.int p tk)) {x : Int × Value} (hx : es[p]? = some x)
    (h : ∀ h', h'.get? I = some (itObj (.ref T) (i + 1) S es.size ep) → Heap.SameBut I s.heap h' → Q (some x.2) { s with heap := h' }) : wpAny (model prog w) A (pyNext (.ref I)) Q E s := by
  have ty : s.TypeIs (.ref I) "set_iterator" := ⟨_, hI, rfl⟩
  unfold pyNext
  refine wpAny_bind (wpAny_attempt (wpAny_callSpecial?_slot (name := Str.ofString "__next__") ty it_slot (wpAny_call_entry it_slot ty it_entry ?_ (it_args _))))
  unfold Builtin.«set_iterator.__next__»
  refine wpAny_bind (m := slotArgs "__next__" 0 ⟨[.ref I], []⟩) (wpAny_pure (wpAny_bind (wpAny_fieldsOf hI rfl ?_)))
  refine wpAny_bind (m := setEntries S) (entries_ok hS hf ?_)
  rw [if_neg (by simp)]
  refine wpAny_bind (m := seqItems? (.ref T)) (wpAny_seqItems hT rfl ?_)
  dsimp only
  rw [show places[(i : Int).toNat]? = some (.int p tk) from hp]
  dsimp only
  refine wpAny_bind (m := setNextDrawn S (p : Int).toNat (ep : Int).toNat) ?_
  unfold setNextDrawn
  refine wpAny_bind (wpAny_setState_of hS rfl hf ?_)
  dsimp only
  rw [if_neg (by simp), show es[(p : Int).toNat]? = some x from hx]
  refine wpAny_pure (wpAny_bind (wpAny_setField hI rfl (by simp) ?_))
  have g1 := Heap.get?_update_self (Obj.mapFields (·.setIfInBounds 1 (rawInt ((i : Int) + 1)))) hI rfl
  exact wpAny_pure ⟨_, rfl, wpAny_pure (h _ g1 (Heap.SameBut.update ..))⟩
theorem next_tup_end {T : Addr} {places : Array Value} {pn : Nat} {i : Nat} {Q : Option Value → Shared → Prop} (hh : A.handled = none) (hI : s.heap.get? I = some (itObj (.ref T) i S es.size ep)) (hT : s.heap.get? T = some { cls := .type "tuple", data := .seq places pn })
    (hS : s.heap.get? S = some (stObj es ep t)) (hf : t.fits es.size = true) (hp : places[i]? = none)
    (h : ∀ h', (∀ b o, b ≠ I → s.heap.get? b = some o → h'.get? b = some o) → Q none { s with heap := h' }) : wpAny (model prog w) A (pyNext (.ref I)) Q E s := by
  have ty : s.TypeIs (.ref I) "set_iterator" := ⟨_, hI, rfl⟩
  unfold pyNext
  refine wpAny_bind (wpAny_attempt (wpAny_callSpecial?_slot (name := Str.ofString "__next__") ty it_slot (wpAny_call_entry it_slot ty it_entry ?_ (it_args _))))
  unfold Builtin.«set_iterator.__next__»
  refine wpAny_bind (m := slotArgs "__next__" 0 ⟨[.ref I], []⟩) (wpAny_pure (wpAny_bind (wpAny_fieldsOf hI rfl ?_)))
  refine wpAny_bind (m := setEntries S) (entries_ok hS hf ?_)
  rw [if_neg (by simp)]
  refine wpAny_bind (m := seqItems? (.ref T)) (wpAny_seqItems hT rfl ?_)
  dsimp only
  rw [show places[(i : Int).toNat]? = none from hp]
  dsimp only
  refine wpAny_bind (wpAny_setField hI rfl (by simp) ?_)
  have g1 := Heap.get?_update_self (Obj.mapFields (·.setIfInBounds 0 (rawInt 0))) hI rfl
  refine wpAny_bind (wpAny_setField g1 rfl (by simp [Obj.mapFields]) ?_)
  refine stop_ok (by first | exact hh | simp [hh]) fun h' e kp tye => ?_
  refine wpAny_bind (wpAny_isInstance (T := "StopIteration") (b := true) tye isSubtype_stop ?_)
  exact wpAny_pure (h _ fun b o hb q => kp b o ((Heap.get?_update_other _ _ (Ne.symm hb)).trans ((Heap.get?_update_other _ _ (Ne.symm hb)).trans q)))
theorem setNext_text {slot i : Nat} {Q : Option (Value × Nat) → Shared → Prop} (hS : s.heap.get? S = some (stObj es ep t)) (hf : t.fits es.size = true) (bt : w.params.followText "set-order" = true)
    (h : Q (((pickOrder (w.params.setOrder S ep) es)[i]?).map fun e => (e.2, slot)) s) : wpAny (model prog w) A (setNext S slot i ep) Q E s := by
  unfold setNext
  refine wpAny_bind (wpAny_setState_of hS rfl hf (wpAny_bind (byText_ok ?_)))
  rw [bt, if_pos rfl, if_neg (by simp)]
  refine wpAny_bind ?_
  unfold setWalk
  refine wpAny_bind (wpAny_setState_of hS rfl hf (wpAny_bind (byText_ok ?_)))
  rw [bt, if_pos rfl]
  exact wpAny_bind (wpAny_askSetting (wpAny_pure (wpAny_pure h)))
theorem setNext_table {slot i : Nat} {Q : Option (Value × Nat) → Shared → Prop} (hS : s.heap.get? S = some (stObj es ep t)) (hf : t.fits es.size = true) (bt : w.params.followText "set-order" = false) (ld : t.led = true) (dr : (!t.plain && decide (es.size > 1)) = false)
    (h : Q (match es[SetTable.below t.place slot]?, t.place[SetTable.below t.place slot]? with | some (_, x), some j => some (x, j + 1) | _, _ => none) s) : wpAny (model prog w) A (setNext S slot i ep) Q E s := by
  unfold setNext
  refine wpAny_bind (wpAny_setState_of hS rfl hf (wpAny_bind (byText_ok ?_)))
  rw [bt, if_neg (by simp)]
  dsimp only
  split
  · rename_i z
    exfalso
    have z' : (!t.plain && decide (es.size > 1)) = true := z
    rw [dr] at z'
    cases z'
  · show wpAny (model prog w) A ((if (!t.led && !es.isEmpty) = true then unsupported "set:maker-not-led" else pure ()) >>= fun _ => pure _) Q E s
    rw [ld, if_neg (by simp)]
    exact wpAny_bind (wpAny_pure (wpAny_pure h))
end
end STb
namespace STb
open PySem PySem.SetTable PyProof.Rows
section
variable {prog : Program} {w : World} {A : Around} {E : Value → Shared → Prop} {s : Shared} {I S : Addr} {es : Array (Int × Value)} {ep : Nat} {t : SetTable}
theorem mv_of {wr : List Addr} {h' : Heap} (k : ∀ b o, b ∉ wr → s.heap.get? b = some o → h'.get? b = some o) : Moved wr Eq s { s with heap := h' } := ⟨k, rfl, rfl, rfl, Nat.le_refl _⟩
theorem self_ok {first : Value} {i n : Nat} {Q : Value → Shared → Prop} (hI : s.heap.get? I = some (itObj first i S n ep)) (h : Q (.ref I) s) : wpAny (model prog w) A (pyIter (.ref I)) Q E s := by
  have ty : s.TypeIs (.ref I) "set_iterator" := ⟨_, hI, rfl⟩
  have sl : Slot "set_iterator" "__iter__" "set_iterator.__iter__" :=
    Slot.of (owner := "set_iterator") (n := "__iter__") (by (rw [typeLookup_type, builtinLookup_eq_fast]); kernel_rfl) (by decide +kernel) (by decide +kernel) (by decide +kernel) (by first | (exact Or.inl (by decide +kernel)) | (exact Or.inr (by decide +kernel))) (by (rw [isSubtype_type]); kernel_rfl)
  have en : entryFor table "set_iterator.__iter__" = some Builtin.«dict_keyiterator.__iter__» := entryFor_alias (id' := "dict_keyiterator.__iter__") (by kernel_rfl) (by decide +kernel) (by decide +kernel) (by kernel_rfl)
  refine wpAny_pyIter_slot ty sl (wpAny_call_entry sl ty en ?_ (by unfold argsOk; kernel_rfl))
  unfold Builtin.«dict_keyiterator.__iter__»
  first
    | exact wpAny_bind (wpAny_pure (wpAny_pure ⟨_, rfl, "set_iterator", _, ty, it_slot.lookup, h⟩))
    | exact wpAny_pure ⟨_, rfl, "set_iterator", _, ty, it_slot.lookup, h⟩
theorem walk_int (hh : A.handled = none) (hIS : I ≠ S) (hf : t.fits es.size = true) (out : List Value) (ho : out.length = es.size) (ok : Nat → Nat → Prop)
    (hn : ∀ (s : Shared) (A' : Around) (E' : Value → Shared → Prop) (Q' : Option (Value × Nat) → Shared → Prop) (i slot : Nat) (x : Value), s.heap.get? S = some (stObj es ep t) → ok i slot → out[i]? = some x →
      ∃ nx, ok (i + 1) nx ∧ (Q' (some (x, nx)) s → wpAny (model prog w) A' (setNext S slot i ep) Q' E' s))
    (he : ∀ (s : Shared) (A' : Around) (E' : Value → Shared → Prop) (Q' : Option (Value × Nat) → Shared → Prop) (slot : Nat), s.heap.get? S = some (stObj es ep t) → ok es.size slot → Q' none s → wpAny (model prog w) A' (setNext S slot es.size ep) Q' E' s) :
    WalksS prog w A I [I, S] [I] Eq es.size (fun i v => out[i]? = some v) (fun i s => (∃ slot : Nat, s.heap.get? I = some (itObj (.int (slot : Int) 0) i S es.size ep) ∧ ok i slot) ∧ s.heap.get? S = some (stObj es ep t)) where
  sub := fun b hb => by simp at hb; simp [hb]
  grefl := fun _ => rfl
  gtrans := fun _ _ _ h1 h2 => h1.trans h2
  frame := fun i s h' tk st _ k => by
    obtain ⟨⟨slot, e, o⟩, e2⟩ := st
    exact ⟨⟨slot, k I (by simp) _ e, o⟩, k S (by simp) _ e2⟩
  item := fun i s Q E hi st q => by
    obtain ⟨⟨slot, e, o⟩, e2⟩ := st
    have hx : out[i]? = some out[i] := List.getElem?_eq_getElem (by omega)
    obtain ⟨nx, o', _⟩ := hn s A E (fun _ _ => True) i slot _ e2 o hx
    have hn' : ∀ (A' : Around) (E' : Value → Shared → Prop) (Q' : Option (Value × Nat) → Shared → Prop), ∃ nx, ok (i + 1) nx ∧ (Q' (some (out[i], nx)) s → wpAny (model prog w) A' (setNext S slot i ep) Q' E' s) := fun A' E' Q' => hn s A' E' Q' i slot _ e2 o hx
    unfold pyNext
    have ty : s.TypeIs (.ref I) "set_iterator" := ⟨_, e, rfl⟩
    refine wpAny_bind (wpAny_attempt (wpAny_callSpecial?_slot (name := Str.ofString "__next__") ty it_slot (wpAny_call_entry it_slot ty it_entry ?_ (it_args _))))
    unfold Builtin.«set_iterator.__next__»
    refine wpAny_bind (m := slotArgs "__next__" 0 ⟨[.ref I], []⟩) (wpAny_pure (wpAny_bind (wpAny_fieldsOf e rfl ?_)))
    refine wpAny_bind (m := setEntries S) (entries_ok e2 hf ?_)
    rw [if_neg (by simp)]
    refine wpAny_bind (m := setNext S (slot : Int).toNat (i : Int).toNat (ep : Int).toNat) ?_
    obtain ⟨nx, o', go⟩ := hn' _ _ _
    refine go ?_
    refine wpAny_bind (wpAny_setField e rfl (by simp) ?_)
    have g1 := Heap.get?_update_self (Obj.mapFields (·.setIfInBounds 0 (rawInt nx))) e rfl
    refine wpAny_bind (wpAny_setField g1 rfl (by simp [Obj.mapFields]) ?_)
    have g2 := Heap.get?_update_self (Obj.mapFields (·.setIfInBounds 1 (rawInt ((i : Int) + 1)))) g1 rfl
    have kp : ∀ b o, b ≠ I → s.heap.get? b = some o → ((s.heap.update I (Obj.mapFields (·.setIfInBounds 0 (rawInt nx)))).update I (Obj.mapFields (·.setIfInBounds 1 (rawInt ((i : Int) + 1))))).get? b = some o := fun b o hb z =>
      (Heap.get?_update_other _ _ (Ne.symm hb)).trans ((Heap.get?_update_other _ _ (Ne.symm hb)).trans z)
    exact wpAny_pure ⟨_, rfl, wpAny_pure (q _ _ hx ⟨⟨nx, g2, o'⟩, kp S _ (Ne.symm hIS) e2⟩ (mv_of fun b o hb z => kp b o (fun y => hb (by simp [y])) z))⟩
  done := fun s Q E st q => by
    obtain ⟨⟨slot, e, o⟩, e2⟩ := st
    exact next_int_end hh e e2 hf (fun A' E' Q' q' => he s A' E' Q' slot e2 o q') fun h' kp => q _ (mv_of fun b o hb z => kp b o (fun y => hb (by simp [y])) z)
  self := fun i s Q E st q => by
    obtain ⟨⟨slot, e, o⟩, e2⟩ := st
    exact self_ok e q
theorem walk_tup {T : Addr} {places : List Nat} {pn : Nat} (hh : A.handled = none) (hIS : I ≠ S) (hIT : I ≠ T) (hf : t.fits es.size = true) (out : List Value) (hl : places.length = es.size) (ho : ∀ (i p : Nat), places[i]? = some p → ∃ x, es[p]? = some x ∧ out[i]? = some x.2) :
    WalksS prog w A I [I, S, T] [I] Eq es.size (fun i v => out[i]? = some v) (fun i s => s.heap.get? I = some (itObj (.ref T) i S es.size ep) ∧ s.heap.get? S = some (stObj es ep t) ∧ s.heap.get? T = some { cls := .type "tuple", data := .seq (places.map fun (p : Nat) => rawInt p).toArray pn }) where
  sub := fun b hb => by simp at hb; simp [hb]
  grefl := fun _ => rfl
  gtrans := fun _ _ _ h1 h2 => h1.trans h2
  frame := fun i s h' tk st _ k => by
    obtain ⟨e, e2, e3⟩ := st
    exact ⟨k I (by simp) _ e, k S (by simp) _ e2, k T (by simp) _ e3⟩
  item := fun i s Q E hi st q => by
    obtain ⟨e, e2, e3⟩ := st
    have hp : places[i]? = some places[i] := List.getElem?_eq_getElem (by omega)
    obtain ⟨x, hx, hy⟩ := ho i _ hp
    refine next_tup (p := places[i]) (tk := 0) e e3 e2 hf (by rw [List.getElem?_toArray, List.getElem?_map, hp]; rfl) hx fun h' g sb => ?_
    exact q _ _ hy ⟨g, sb.extBut _ _ (Ne.symm hIS) e2, sb.extBut _ _ (Ne.symm hIT) e3⟩ (mv_of fun b o hb z => sb.extBut b o (fun y => hb (by simp [y])) z)
  done := fun s Q E st q => by
    obtain ⟨e, e2, e3⟩ := st
    exact next_tup_end hh e e3 e2 hf (by simp [hl]) fun h' kp => q _ (mv_of fun b o hb z => kp b o (fun y => hb (by simp [y])) z)
  self := fun i s Q E st q => self_ok st.1 q
end
end STb
namespace STb
open PySem PySem.SetTable PyProof.Rows
section
variable {prog : Program} {w : World} {A : Around} {E : Value → Shared → Prop} {s : Shared} {I S : Addr} {es : Array (Int × Value)} {ep : Nat} {t : SetTable}
theorem drawn_ok {Q : Bool → Shared → Prop} (hS : s.heap.get? S = some (stObj es ep t)) (hf : t.fits es.size = true) (h : Q (!w.params.followText "set-order" && (!t.plain && decide (es.size > 1))) s) : wpAny (model prog w) A (setDrawn S) Q E s := by
  unfold setDrawn
  exact wpAny_bind (wpAny_setState_of hS rfl hf (wpAny_bind (byText_ok (wpAny_pure h))))
theorem iter_slot : Slot "set" "__iter__" "set.__iter__" := PySem.F.slot_set_iter
theorem iter_ok {ns : List Int} {Q : Value → Shared → Prop} (hh : A.handled = none) (r : RS prog w s.heap S ns)
    (h : ∀ (I : Addr) (fp : List Addr) (n : Nat) (out : List Value) (ms : List Int) (St : Nat → Shared → Prop) (s' : Shared), (∀ A' : Around, A'.handled = none → WalksS prog w A' I fp [I] Eq n (fun i v => out[i]? = some v) St) → St 0 s' → I ∈ fp → (∀ b ∈ fp, b < s'.heap.objs.size) → (∀ b ∈ fp, b = S ∨ s.heap.objs.size ≤ b) → s.heap.objs.size ≤ I →
      IntsAre out ms → ms.Perm ns → out.length = n → (∀ b o, s.heap.get? b = some o → s'.heap.get? b = some o) → s'.gens = s.gens → s'.os = s.os → s.toks ≤ s'.toks → Q (.ref I) s') :
    wpAny (model prog w) A (pyIter (.ref S)) Q E s := by
  obtain ⟨es, ep, t, hS, el, pm, bd, ft, rs, ld, nd⟩ := r
  have ty : s.TypeIs (.ref S) "set" := ⟨_, hS, rfl⟩
  have intsOf : ∀ l : List (Int × Value), (∀ e ∈ l, ∃ k, kI e.2 = some k) → ∃ ms, IntsAre (l.map (·.2)) ms ∧ l.map (fun e => kI e.2) = ms.map some := fun l => by
    induction l with
    | nil => intro _; exact ⟨[], .nil, rfl⟩
    | cons e l ih =>
      intro q
      obtain ⟨ms, a, b⟩ := ih fun x hx => q x (List.mem_cons_of_mem _ hx)
      obtain ⟨k, hk⟩ := q e List.mem_cons_self
      obtain ⟨hsh, v⟩ := e
      cases v <;> first
        | (rename_i m tk; cases hk; exact ⟨_ :: ms, .cons _ _ a, by rw [List.map_cons, List.map_cons, b]; rfl⟩)
        | cases hk
  have allk : ∀ e ∈ es.toList, ∃ k, kI e.2 = some k := fun e he => by
    obtain ⟨⟨k, q, _⟩, _⟩ := el e he
    exact ⟨k, kI_is.mp q⟩
  have perm : ∀ l : List (Int × Value), l.Perm es.toList → ∃ ms, IntsAre (l.map (·.2)) ms ∧ ms.Perm ns := fun l hp => by
    obtain ⟨ms, a, b⟩ := intsOf l fun e he => allk e (hp.mem_iff.mp he)
    refine ⟨ms, a, ?_⟩
    have q : (ms.map some).Perm (ns.map some) := by
      rw [← b]
      exact (hp.map _).trans pm
    have q' := q.map (fun o : Option Int => o.getD 0)
    simpa [List.map_map, Function.comp_def] using q'
  have plc : t.place.size = es.size := by
    simp only [SetTable.fits, Bool.and_eq_true, beq_iff_eq] at ft
    exact ft.1
  refine wpAny_pyIter_slot ty iter_slot (wpAny_call_entry iter_slot ty iter_entry ?_ (PySem.F.args_set_iter_1 _))
  unfold Builtin.«frozenset.__iter__»
  refine wpAny_bind (m := Builtin.Frozenset.slot0 "__iter__" ⟨[.ref S], []⟩) (wpAny_bind (wpAny_pure (wpAny_pure ?_)))
  refine wpAny_bind (m := Builtin.Frozenset.sizeOf S) (wpAny_bind (entries_ok hS ft (wpAny_pure ?_)))
  refine wpAny_bind (m := setDrawn S) (drawn_ok hS ft ?_)
  have hlt : S < s.heap.objs.size := Heap.lt_size hS
  cases bt : w.params.followText "set-order" with
  | true =>
    rw [if_neg (by simp)]
    refine wpAny_bind (wpAny_pure (wpAny_bind (wpAny_setEpoch_of hS rfl ft (wpAny_bind (wpAny_newObj_type (wpAny_pure ⟨_, rfl, "set_iterator", _, ⟨_, Heap.get?_push_size _ rfl, rfl⟩, it_slot.lookup, ?_⟩))))))
    obtain ⟨ms, a, b⟩ := perm _ (pick_perm (w.params.setOrder S ep) es)
    have lo : ((pickOrder (w.params.setOrder S ep) es).toList.map (·.2)).length = es.size := by rw [List.length_map, (pick_perm _ _).length_eq, Array.length_toList]
    refine h s.heap.objs.size [s.heap.objs.size, S] es.size _ ms _ _ (fun A' hA' => walk_int (t := t) (ep := ep) hA' (Nat.ne_of_gt hlt) ft _ lo (fun _ _ => True) (fun s A' E' Q' i slot x e _ hx => ⟨slot, trivial, fun q => setNext_text e ft bt ?_⟩) fun s A' E' Q' slot e _ q => setNext_text e ft bt ?_)
      ⟨⟨0, Heap.get?_push_size _ rfl, trivial⟩, Heap.get?_push_of_some _ hS⟩ (by simp) (fun b hb => ?_) (fun b hb => (List.mem_cons.mp hb).elim (fun z => .inr (Nat.le_of_eq z.symm)) fun z => .inl (List.mem_singleton.mp z)) (Nat.le_refl _) a b lo (fun b o e => Heap.get?_push_of_some _ e) rfl rfl (Nat.le_refl _)
    · rw [List.getElem?_map, Array.getElem?_toList] at hx
      cases z : (pickOrder (w.params.setOrder S ep) es)[i]? with
      | none => rw [z] at hx; cases hx
      | some y => rw [z] at hx; cases hx; exact q
    · rw [Array.getElem?_eq_none (by rw [← Array.length_toList, (pick_perm _ _).length_eq, Array.length_toList]; exact Nat.le_refl _)]
      exact q
    · rw [Heap.size_push]
      rcases List.mem_cons.mp hb with z | z
      · rw [z]; exact Nat.lt_succ_self _
      · rw [List.mem_singleton.mp z]; exact Nat.lt_succ_of_lt hlt
  | false =>
    rw [bt] at ld
    cases dr : (!t.plain && decide (es.size > 1)) with
    | false =>
      rw [if_neg (by simp)]
      refine wpAny_bind (wpAny_pure (wpAny_bind (wpAny_setEpoch_of hS rfl ft (wpAny_bind (wpAny_newObj_type (wpAny_pure ⟨_, rfl, "set_iterator", _, ⟨_, Heap.get?_push_size _ rfl, rfl⟩, it_slot.lookup, ?_⟩))))))
      obtain ⟨ms, a, b⟩ := perm _ (List.Perm.refl _)
      have lo : (es.toList.map (·.2)).length = es.size := by rw [List.length_map, Array.length_toList]
      refine h s.heap.objs.size [s.heap.objs.size, S] es.size _ ms _ _ (fun A' hA' => walk_int (t := t) (ep := ep) hA' (Nat.ne_of_gt hlt) ft _ lo (fun i slot => SetTable.below t.place slot = i) (fun s A' E' Q' i slot x e o hx => ?_) fun s A' E' Q' slot e o q => setNext_table e ft bt ld dr ?_)
        ⟨⟨0, Heap.get?_push_size _ rfl, below_zero rs⟩, Heap.get?_push_of_some _ hS⟩ (by simp) (fun b hb => ?_) (fun b hb => (List.mem_cons.mp hb).elim (fun z => .inr (Nat.le_of_eq z.symm)) fun z => .inl (List.mem_singleton.mp z)) (Nat.le_refl _) a b lo (fun b o e => Heap.get?_push_of_some _ e) rfl rfl (Nat.le_refl _)
      · rw [List.getElem?_map, Array.getElem?_toList] at hx
        have hi : i < es.size := by
          rcases Nat.lt_or_ge i es.size with z | z
          · exact z
          · rw [Array.getElem?_eq_none z] at hx; cases hx
        have hp : t.place[i]? = some t.place[i] := by simp [plc, hi]
        refine ⟨t.place[i] + 1, below_next rs hp, fun q => setNext_table e ft bt ld dr ?_⟩
        rw [o, hp]
        cases z : es[i]? with
        | none => rw [z] at hx; cases hx
        | some y => rw [z] at hx; cases hx; exact q
      · rw [o, Array.getElem?_eq_none (Nat.le_refl _)]
        exact q
      · rw [Heap.size_push]
        rcases List.mem_cons.mp hb with z | z
        · rw [z]; exact Nat.lt_succ_self _
        · rw [List.mem_singleton.mp z]; exact Nat.lt_succ_of_lt hlt
    | true =>
      rw [if_pos (by simp)]
      refine wpAny_bind (draw_ok es.size (List.range es.size) s _ (by simp) fun ys d hp => wpAny_bind ?_)
      have ly : ys.length = es.size := by rw [hp.length_eq]; simp
      refine wpAny_newTuple ?_ (by rw [List.length_map, ly]; exact fits_of_scanBound bd)
      refine wpAny_bind (wpAny_setEpoch_of (o := stObj es ep t) (Heap.get?_push_of_some _ hS) rfl ft (wpAny_bind (wpAny_newObj_type (wpAny_pure ⟨_, rfl, "set_iterator", _, ⟨_, Heap.get?_push_size _ rfl, rfl⟩, it_slot.lookup, ?_⟩))))
      have hy : ∀ p ∈ ys, p < es.size := fun p hm => List.mem_range.mp (hp.mem_iff.mp hm)
      have pl : (ys.map fun p => es.getD p (0, .none)).Perm es.toList := by
        have e : es.toList = (List.range es.size).map fun p => es.getD p (0, .none) := by
          refine List.ext_getElem (by simp) fun i h1 h2 => ?_
          have : i < es.size := by simpa using h1
          simp [Array.getD, this]
        rw [e]
        exact hp.map _
      obtain ⟨ms, a, b⟩ := perm _ pl
      have n1 : (s.heap.push { cls := Value.type "tuple", data := Data.seq (ys.map fun (p : Nat) => rawInt p).toArray }).objs.size = s.heap.objs.size + 1 := Heap.size_push ..
      refine h _ [_, S, s.heap.objs.size] es.size _ ms _ _ (fun A' hA' => walk_tup (T := s.heap.objs.size) (pn := 0) (t := t) (ep := ep) hA' (by rw [n1]; exact Nat.ne_of_gt (Nat.lt_succ_of_lt hlt)) (by rw [n1]; exact Nat.ne_of_gt (Nat.lt_succ_self _)) ft _ ly fun i p hip => ?_)
        ⟨Heap.get?_push_size _ rfl, Heap.get?_push_of_some _ (Heap.get?_push_of_some _ hS), Heap.get?_push_of_some _ (Heap.get?_push_size _ rfl)⟩ (by simp) (fun b hb => ?_) (fun b hb => ?_) (by rw [n1]; exact Nat.le_succ _) a b (by rw [List.length_map, List.length_map, ly]) (fun b o e => Heap.get?_push_of_some _ (Heap.get?_push_of_some _ e)) rfl rfl (Nat.le_refl _)
      · have hm := hy p (List.mem_of_getElem? hip)
        refine ⟨es[p], by simp [hm], ?_⟩
        rw [List.getElem?_map, List.getElem?_map, hip]
        simp [Array.getD, hm]
      · rw [Heap.size_push, n1]
        simp only [List.mem_cons, List.not_mem_nil, or_false] at hb
        rcases hb with z | z | z
        · rw [z]
          exact Nat.lt_of_le_of_lt (Nat.le_of_eq n1) (Nat.lt_succ_self _)
        · rw [z]; exact Nat.lt_succ_of_lt (Nat.lt_succ_of_lt hlt)
        · rw [z]; exact Nat.lt_succ_of_lt (Nat.lt_succ_self _)
      · simp only [List.mem_cons, List.not_mem_nil, or_false] at hb
        rcases hb with z | z | z
        · right
          rw [z, n1]
          exact Nat.le_succ _
        · exact .inl z
        · exact .inr (Nat.le_of_eq z.symm)
end
end STb
namespace STb
open PySem PySem.SetTable PyProof.Rows
section
variable {prog : Program} {w : World} {A : Around} {E : Value → Shared → Prop} {s : Shared} {I S : Addr}
theorem ints_of_items {out : List Value} {n : Nat} (ho : out.length = n) {acc : Array Value} (h : ItemsOf (fun i v => out[i]? = some v) acc n) : acc.toList = out := by
  refine List.ext_getElem? fun i => ?_
  rw [Array.getElem?_toList]
  rcases Nat.lt_or_ge i n with z | z
  · have hs : i < acc.size := by rw [h.1]; exact z
    have := h.2 i acc[i] (by simp [hs])
    rw [this]
    simp [hs]
  · rw [Array.getElem?_eq_none (by rw [h.1]; exact z), List.getElem?_eq_none (by omega)]
theorem collect_set {ns : List Int} {Q : List Value → Shared → Prop} (hh : A.handled = none) (r : RS prog w s.heap S ns)
    (h : ∀ (s' : Shared) (vs : List Value) (ms : List Int), IntsAre vs ms → ms.Perm ns → (∀ b o, s.heap.get? b = some o → s'.heap.get? b = some o) → s.heap.objs.size < s'.heap.objs.size → s'.gens = s.gens → s'.os = s.os → Q vs s') :
    wpAny (model prog w) A (collect (.ref S)) Q E s := by
  have hlen := r.len
  have hSlt : S < s.heap.objs.size := by
    obtain ⟨es, ep, t, e, _⟩ := r
    exact Heap.lt_size e
  unfold collect
  refine wpAny_bind (wpAny_runValue (codeAny_builtin F.entry_proto_collect ?_))
  rw [Around.under_plainId F.plain_proto_collect _]
  refine wpAny_bind (m := newList []) (wpAny_newObj_type ?_)
  refine wpAny_pure ⟨plainId_quiet F.plain_list_iadd _, codeAny_builtin F.entry_list_iadd ?_⟩
  rw [Around.under_plainId F.plain_list_iadd _]
  have r1 : RS prog w (s.heap.push { cls := .type "list", data := .seq ([] : List Value).toArray }) S ns := r.keep fun o e => Heap.get?_push_of_some _ e
  have ty1 : Shared.TypeIs { s with heap := s.heap.push { cls := .type "list", data := .seq ([] : List Value).toArray } } (.ref S) "set" := by
    obtain ⟨es, ep, t, e, _⟩ := r1
    exact ⟨_, e, rfl⟩
  show wpAny _ A.in1 (Builtin.List.listExtendWith (.ref s.heap.objs.size) (.ref S) (.ref s.heap.objs.size)) _ _ _
  unfold Builtin.List.listExtendWith
  refine wpAny_bind (wpAny_typeOf ty1 ?_)
  have d1 : Builtin.List.listSameRef (.ref s.heap.objs.size) (.ref S) = false := by
    simp only [Builtin.List.listSameRef, beq_eq_false_iff_ne, ne_eq]
    exact Nat.ne_of_gt hSlt
  have d2 : (Value.type "set" == Value.type "list") = false := by decide
  have d3 : (Value.type "set" == Value.type "tuple") = false := by decide
  simp only [d1, d2, d3, Bool.or_false, Bool.false_eq_true, if_false]
  have hh1 : A.in1.handled = none := by simp [hh]
  refine wpAny_bind (iter_ok hh1 r1 fun I fp n out ms St s2 W st0 hI hfp hfs hge hi hp ho kp eg eo htk => ?_)
  have ty2 : s2.TypeIs (.ref S) "set" := by
    obtain ⟨es, ep, t, e, _⟩ := r1
    exact ⟨_, kp _ _ e, rfl⟩
  refine wpAny_bind (wpAny_holding ?_)
  unfold Builtin.List.listLengthHint
  refine wpAny_bind (wpAny_specialOf ty2 set_len_look ?_)
  refine wpAny_bind (m := isInstance (.ref S) (.type "set")) (wpAny_isInstance ty2 set_sub_set ?_)
  simp only [Bool.not_true, Bool.false_eq_true, if_false]
  refine wpAny_ite_split (fun _ => ?_) (fun z => absurd (by decide +kernel) z)
  refine wpAny_bind (wpAny_typeOf ty2 (wpAny_pure ?_))
  refine wpAny_ite_split (fun _ => ?_) (fun z => absurd (by decide +kernel) z)
  refine wpAny_bind (wpAny_rule ?_)
  have g0 : (s.heap.push { cls := .type "list", data := .seq ([] : List Value).toArray }).get? s.heap.objs.size = some { cls := .type "list", data := .seq ([] : List Value).toArray } := Heap.get?_push_size _ rfl
  have g2 := kp _ _ g0
  have Iout : s.heap.objs.size < I := by
    rw [Heap.size_push] at hge
    exact hge
  refine wpAny_bind (m := Builtin.List.listTouch (.ref s.heap.objs.size)) ?_
  refine wpAny_bind (m := updateSeq s.heap.objs.size (·.push .none)) (wpAny_updateSeq g2 rfl ?_)
  have g3 := Heap.get?_update_self (Obj.mapSeq (·.push Value.none)) g2 rfl
  refine wpAny_updateSeq g3 rfl ?_
  have g4 := Heap.get?_update_self (Obj.mapSeq (·.pop)) g3 rfl
  have oth : ∀ b o, b ≠ s.heap.objs.size → s2.heap.get? b = some o → ((s2.heap.update s.heap.objs.size (Obj.mapSeq (·.push Value.none))).update s.heap.objs.size (Obj.mapSeq (·.pop))).get? b = some o :=
    fun b o hb e => (Heap.get?_update_other _ _ (Ne.symm hb)).trans ((Heap.get?_update_other _ _ (Ne.symm hb)).trans e)
  have hSf : s.heap.objs.size ∉ fp := fun z => by
    rcases hfs _ z with y | y
    · exact absurd hSlt (by rw [← y]; exact Nat.lt_irrefl _)
    · rw [Heap.size_push] at y
      exact Nat.lt_irrefl _ y
  have W1 := W A.in1 (by simp [hh])
  have hn : n ≤ sizeLine := by
    have e1 := hi.length
    have e2 := hp.length_eq
    have := fits_of_scanBound hlen
    omega
  refine wpAny_pure ⟨plainId_quiet F.plain_extend_loop _, codeAny_extend_loopS W1 hn _ hSf _ n 0 _ _ _ rfl (Nat.zero_le _) (W1.frame 0 s2 _ s2.toks st0 (Nat.le_refl _) fun b hb o e => oth b o (fun z => hSf (z ▸ hb)) e) g4 (ItemsOf.nil _) fun s3 acc c mv gS hacc => ?_⟩
  refine wpAny_bind (wpAny_load gS (wpAny_pure ?_))
  rw [ints_of_items ho hacc]
  refine h s3 out ms hi hp (fun b o e => ?_) (Heap.lt_size gS) (mv.gens.symm.trans eg) (mv.os.trans eo)
  have hb : b ≠ s.heap.objs.size := Nat.ne_of_lt (Heap.lt_size e)
  have hbI : b ≠ I := Nat.ne_of_lt (Nat.lt_trans (Heap.lt_size e) Iout)
  exact mv.heap b o (by simp only [List.mem_cons, List.not_mem_nil, or_false, not_or]; exact ⟨hb, hbI⟩) (oth b o hb (kp b o (Heap.get?_push_of_some _ e)))
end
end STb
namespace STb
open PySem PySem.SetTable PyProof.Rows
section
variable {prog : Program} {w : World} {A : Around} {E : Value → Shared → Prop} {s : Shared} {I S : Addr}
theorem sorted_set {ns : List Int} {Q : Value → Shared → Prop} (hh : A.handled = none) (r : RS prog w s.heap S ns) (hbig : ns.length ≤ 63)
    (h : ∀ (l : Addr) (vs : List Value) (ms : List Int) (n : Nat) (s' : Shared), IntsAre vs ms → ms.Perm ns → ms.Pairwise (· ≤ ·) → s.heap.objs.size ≤ l → s'.heap.get? l = some { cls := .type "list", data := .seq vs.toArray n } →
      (∀ b o, s.heap.get? b = some o → s'.heap.get? b = some o) → s'.gens = s.gens → s'.os = s.os → Q (.ref l) s') :
    wpAny (model prog w) A (call (.builtin "sorted") [.ref S]) Q E s := by
  refine Calls.call_function_entry kind_sorted plain_sorted entry_sorted (args_sorted1 _) ?_
  unfold Builtin.«sorted»
  refine wpAny_bind (m := checkCount "sorted" 1 1 _) (wpAny_pure ?_)
  have hhs : ∀ {A' : Around}, A'.handled = A.handled → A'.handled = none := fun e => e.trans hh
  refine wpAny_bind (collect_set (by first | exact hh | simp [hh]) r fun s1 vs ms hi hp kp szl eg eo => ?_)
  have hv : vs.length ≤ 63 := by
    have e1 := hi.length
    have e2 := hp.length_eq
    omega
  have hz : vs.length ≤ sizeLine := Nat.le_trans hv (by decide)
  refine wpAny_bind (wpAny_newList ?_ hz)
  have g1 : (s1.heap.push (seqObj "list" vs.toArray 0)).get? s1.heap.objs.size = some (seqObj "list" vs.toArray 0) := Heap.get?_push_size _ rfl
  refine wpAny_bind (wpAny_holding (wpAny_call_entry slot_list_sort ⟨_, g1, rfl⟩ entry_list_sort (Tim.sort_any g1 hi hv fun out ns' a1 a2 a3 => ⟨_, rfl, ?_⟩) (args_list_sort _)))
  obtain ⟨e, he⟩ : ∃ e, (sortedHeap (s1.heap.push (seqObj "list" vs.toArray 0)) s1.heap.objs.size vs out).get? s1.heap.objs.size = some (seqObj "list" out e) := sortedHeap_at g1
  have hle : s.heap.objs.size ≤ s1.heap.objs.size := Nat.le_of_lt szl
  refine wpAny_pure ⟨_, rfl, h _ out.toList ns' e _ a1 (a2.trans hp) a3 hle (by rw [Array.toArray_toList]; exact he) (fun b o q => ?_) eg eo⟩
  have q1 := kp b o q
  have hb : b < s1.heap.objs.size := Heap.lt_size q1
  show (sortedHeap (s1.heap.push (seqObj "list" vs.toArray 0)) s1.heap.objs.size vs out).get? b = some o
  rw [sortedHeap_old (Nat.ne_of_lt hb) (by rw [size_push']; exact Nat.lt_succ_of_lt hb)]
  exact Heap.get?_push_of_some _ q1
end
end STb
namespace L2
open PySem PySem.Spec PyProof.Rows STb
def setHO (P : Program) (w : World) (a : Addr) (ns : List Int) : HO := .ext fun h => RS P w h a ns
def dedup (ns : List Int) : List Int := ns.foldl addTo []
theorem metBy_dedup (ns : List Int) : metBy (fun i => ns.getD i 0) ns.length = dedup ns := by
  unfold metBy dedup
  congr 1
  refine List.ext_getElem (by simp) fun i h1 h2 => ?_
  have : i < ns.length := by simpa using h1
  simp [List.getD, this]
theorem mem_dedup {ns : List Int} {k : Int} : k ∈ dedup ns ↔ k ∈ ns := by
  have key : ∀ (l acc : List Int), k ∈ l.foldl addTo acc ↔ k ∈ acc ∨ k ∈ l := fun l => by
    induction l with
    | nil => intro acc; simp
    | cons x r ih =>
      intro acc
      rw [List.foldl_cons, ih, addTo_mem, List.mem_cons, or_assoc]
  rw [dedup, key]
  simp
theorem nodup_dedup (ns : List Int) : (dedup ns).Nodup := by
  have key : ∀ (l acc : List Int), acc.Nodup → (l.foldl addTo acc).Nodup := fun l => by
    induction l with
    | nil => intro acc h; exact h
    | cons x r ih => intro acc h; exact ih _ (addTo_nd h)
  exact key ns [] List.nodup_nil
theorem dedup_len (ns : List Int) : (dedup ns).length ≤ ns.length := by
  rw [← metBy_dedup]
  exact metBy_len _ _
theorem metBy_nodup (val : Nat → Int) : ∀ i, (metBy val i).Nodup
  | 0 => by simp [metBy]
  | i + 1 => by
    rw [metBy_succ]
    exact addTo_nd (metBy_nodup val i)
theorem few_nat : ∀ (n : Nat) (L : List Nat), L.Nodup → (∀ x ∈ L, x < n) → L.length ≤ n
  | 0, L, _, h => by
    cases L with
    | nil => exact Nat.le_refl _
    | cons a r => exact absurd (h a (by simp)) (by omega)
  | n + 1, L, hn, h => by
    by_cases hm : n ∈ L
    · have h1 := few_nat n (L.erase n) (hn.erase n) fun x hx => by
        obtain ⟨h2, h3⟩ := hn.mem_erase_iff.mp hx
        have := h x h3
        omega
      rw [List.length_erase_of_mem hm] at h1
      omega
    · have := few_nat n L hn fun x hx => by
        have := h x hx
        have : x ≠ n := fun z => hm (z ▸ hx)
        omega
      omega
theorem few_of {L : List Int} (hn : L.Nodup) (h : ∀ z ∈ L, 0 ≤ z ∧ z < 1000) : L.length ≤ 1000 := by
  have := few_nat 1000 (L.map Int.toNat) (by
    unfold List.Nodup
    rw [List.pairwise_map]
    refine List.Pairwise.imp_of_mem (fun {a b} ha hb e => ?_) hn
    have := h a ha
    have := h b hb
    omega) fun x hx => by
    obtain ⟨z, hz, rfl⟩ := List.mem_map.mp hx
    have := h z hz
    omega
  simpa using this
section
variable {X : Cx} {P : Program} {w : World} {K : PySem.W.Frag}
def rMkSetB (P : Program) (w : World) (K : PySem.W.Frag) : List V → Hp → VK → Prop := fun xs H Q => ∃ (p : Addr) (ns : List Int), xs = [.ref p] ∧ SqL K H p (ns.map V.int) ∧ (ns.length ≤ 1000 ∨ ∀ z ∈ ns, 0 ≤ z ∧ z < 1000) ∧ ∀ a, H a = none → Q (.ref a) (upd H a (setHO P w a (dedup ns)))
theorem call_setB (hP : X.prog = P) (hw : X.w = w) (hK : X.K = K) (hc : X.calm = true) : CallR X (.type "set") (rMkSetB P w K) := by
  subst hP hw hK
  intro pins s σ H xs us Q I r h
  obtain ⟨p, ns, rfl, hq, hl, q⟩ := h
  obtain ⟨u, rfl, ru⟩ := vals1 r
  cases ru
  obtain ⟨its, rv, pl, hz⟩ := I.list hq
  have hi : IntsAre its ns := intsAre_of rv
  have hle := hi.length
  have few : ∀ i, i ≤ its.toArray.size → (metBy (fun i => ns.getD i 0) i).length + 1 < scanBound := fun i hi' => by
    show _ < 4096
    rw [List.size_toArray] at hi'
    rcases hl with hl | hl
    · have := metBy_len (fun i => ns.getD i 0) i
      omega
    · have h1 : ∀ i, i ≤ ns.length → (metBy (fun i => ns.getD i 0) i).Nodup := fun i _ => metBy_nodup _ i
      have h2 := few_of (h1 i (by omega)) fun z hz => by
        obtain ⟨j, hj, rfl⟩ := (metBy_mem _ _ _).mp hz
        have hj2 : j < ns.length := by omega
        rw [List.getD_eq_getElem?_getD, List.getElem?_eq_getElem hj2]
        exact hl _ (List.getElem_mem hj2)
      omega
  refine call_setR (I.ok.hd hc) pl.isList (by simpa using hi) few fun h' tk rs kp => ?_
  have em : metBy (fun i => ns.getD i 0) its.toArray.size = dedup ns := by
    have e : its.toArray.size = ns.length := by simp [hle]
    rw [e, metBy_dedup]
  rw [em] at rs
  refine ⟨.ref _, _, I.laid (a := s.heap.objs.size) (o := setHO X.prog X.w s.heap.objs.size (dedup ns)) (t' := tk) (fun b o e => kp b o (Heap.lt_size e) e) (Nat.le_refl _) ⟨rs, ?_, fun h1 h2 r1 k => r1.keep k⟩, rfl, q _ I.fresh⟩
  obtain ⟨es, ep, t, e, _⟩ := rs
  exact ⟨_, e⟩
def rMkSet (P : Program) (w : World) (K : PySem.W.Frag) : List V → Hp → VK → Prop := fun xs H Q => ∃ (p : Addr) (ns : List Int), xs = [.ref p] ∧ SqL K H p (ns.map V.int) ∧ ns.length ≤ 1000 ∧ ∀ a, H a = none → Q (.ref a) (upd H a (setHO P w a (dedup ns)))
theorem call_setK (hP : X.prog = P) (hw : X.w = w) (hK : X.K = K) (hc : X.calm = true) : CallR X (.type "set") (rMkSet P w K) := by
  intro pins s σ H xs us Q I r h
  obtain ⟨p, ns, e, hq, hl, q⟩ := h
  exact call_setB hP hw hK hc pins s σ H xs us Q I r ⟨p, ns, e, hq, .inl hl, q⟩
def rSortS (P : Program) (w : World) : List V → Hp → VK → Prop := fun xs H Q => ∃ (a : Addr) (ns : List Int), xs = [.ref a] ∧ H a = some (setHO P w a ns) ∧ ns.length ≤ 63 ∧ ∀ (l : Addr) (ms : List Int), H l = none → ms.Perm ns → ms.Pairwise (· ≤ ·) → Q (.ref l) (upd H l (.lst (ms.map V.int)))
theorem call_sortS (hP : X.prog = P) (hw : X.w = w) (hc : X.calm = true) : CallR X (.builtin "sorted") (rSortS P w) := by
  subst hP hw
  intro pins s σ H xs us Q I r h
  obtain ⟨a, ns, rfl, ha, hl, q⟩ := h
  obtain ⟨u, rfl, ru⟩ := vals1 r
  cases ru
  have rs : RS X.prog X.w s.heap a ns := (I.hok a _ ha).1
  refine sorted_set (I.ok.hd hc) rs hl fun l vs ms n s' hi hp pw hle g kp eg eo => ?_
  obtain ⟨h', g', d', t', o'⟩ := s'
  have e1 : o' = s.os := eo
  have e2 : g' = s.gens := eg
  subst e1 e2
  have hn : H l = none := I.hok.fresh hle
  have e3 := hi.length
  have e4 := hp.length_eq
  have hok := I.hok.laid (h' := h') (a := l) (o := .lst (ms.map V.int)) kp hle ⟨by rw [List.length_map]; exact Nat.le_trans (show ms.length ≤ 63 by omega) (by decide), vs, n, vals_ints hi, g⟩
  refine ⟨.ref l, _, I.call' (s' := ⟨h', s.gens, d', t', s.os⟩) (ch := []) rfl (Un.laid kp hle hn) hok I.bare (fun _ z => nomatch z), rfl, q l ms hn hp pw⟩
def rSortL (K : PySem.W.Frag) : List V → Hp → VK → Prop := fun xs H Q => ∃ (p : Addr) (ns : List Int), xs = [.ref p] ∧ SqL K H p (ns.map V.int) ∧ ns.length ≤ 63 ∧ ∀ (l : Addr) (ms : List Int), H l = none → ms.Perm ns → ms.Pairwise (· ≤ ·) → Q (.ref l) (upd H l (.lst (ms.map V.int)))
theorem call_sortL (hK : X.K = K) : CallR X (.builtin "sorted") (rSortL K) := by
  subst hK
  intro pins s σ H xs us Q I r h
  obtain ⟨p, ns, rfl, hq, hl, q⟩ := h
  obtain ⟨u, rfl, ru⟩ := vals1 r
  cases ru
  obtain ⟨its, rv, pl, hz⟩ := I.list hq
  have hi : IntsAre its ns := intsAre_of rv
  have hle := hi.length
  refine Tim.sorted_any pl.isList hi (by omega) fun out ms a1 a2 a3 => ?_
  obtain ⟨e, he⟩ := sortedAll_at s.heap its out
  have hn : H (s.heap.objs.size + 1) = none := I.hok.fresh (Nat.le_succ _)
  have e4 := a2.length_eq
  refine ⟨.ref _, _, I.laid (a := s.heap.objs.size + 1) (o := .lst (ms.map V.int)) (t' := s.toks) (fun b o z => sortedAll_old z) (Nat.le_succ _) ⟨by rw [List.length_map]; exact Nat.le_trans (show ms.length ≤ 63 by omega) (by decide), out.toList, e, vals_ints a1, by rw [Array.toArray_toList]; exact he⟩, rfl, q _ ms hn a2 a3⟩
def rSortX (P : Program) (w : World) (K : PySem.W.Frag) : List V → Hp → VK → Prop := fun xs H Q => ∃ (a : Addr) (ns : List Int), xs = [.ref a] ∧ (SqL K H a (ns.map V.int) ∨ H a = some (setHO P w a ns)) ∧ ns.length ≤ 63 ∧
  ∀ (l : Addr) (ms : List Int), H l = none → ms.Perm ns → ms.Pairwise (· ≤ ·) → Q (.ref l) (upd H l (.lst (ms.map V.int)))
theorem call_sortX (hP : X.prog = P) (hw : X.w = w) (hK : X.K = K) (hc : X.calm = true) : CallR X (.builtin "sorted") (rSortX P w K) := by
  intro pins s σ H xs us Q I r h
  obtain ⟨a, ns, rfl, h1 | h1, hl, q⟩ := h
  · exact call_sortL hK pins s σ H _ us Q I r ⟨a, ns, rfl, h1, hl, q⟩
  · exact call_sortS hP hw hc pins s σ H _ us Q I r ⟨a, ns, rfl, h1, hl, q⟩
end
end L2
namespace Fam
def sub (b a : Nat) : Prop := a &&& b = b
instance (b a : Nat) : Decidable (sub b a) := inferInstanceAs (Decidable (a &&& b = b))
theorem sub_iff {b a : Nat} : sub b a ↔ ∀ k, b.testBit k = true → a.testBit k = true := by
  unfold sub
  constructor
  · intro h k hk
    rw [← h, Nat.testBit_and, Bool.and_eq_true] at hk
    exact hk.1
  · intro h
    refine Nat.eq_of_testBit_eq fun k => ?_
    rw [Nat.testBit_and]
    cases hb : b.testBit k
    · simp
    · simp [h k hb]
theorem sub_refl (a : Nat) : sub a a := Nat.and_self a
theorem sub_trans {a b c : Nat} (h1 : sub a b) (h2 : sub b c) : sub a c := sub_iff.mpr fun k hk => sub_iff.mp h2 k (sub_iff.mp h1 k hk)
theorem sub_le {a b : Nat} (h : sub b a) : b ≤ a := by
  have : a &&& b ≤ a := Nat.and_le_left
  rw [h] at this
  exact this
theorem sub_anti {a b : Nat} (h1 : sub a b) (h2 : sub b a) : a = b := Nat.le_antisymm (sub_le h1) (sub_le h2)
def mt (a b : Nat) : Prop := a &&& b ≠ 0
instance (b a : Nat) : Decidable (mt b a) := inferInstanceAs (Decidable (b &&& a ≠ 0))
theorem mt_iff {a b : Nat} : mt a b ↔ ∃ k, a.testBit k = true ∧ b.testBit k = true := by
  unfold mt
  constructor
  · intro h
    obtain ⟨k, hk⟩ := Nat.exists_testBit_of_ne_zero h
    rw [Nat.testBit_and, Bool.and_eq_true] at hk
    exact ⟨k, hk⟩
  · rintro ⟨k, h1, h2⟩ e
    have := congrArg (fun z => Nat.testBit z k) e
    simp [Nat.testBit_and, h1, h2] at this
theorem mt_comm {a b : Nat} : mt a b ↔ mt b a := by unfold mt; rw [Nat.and_comm]
theorem mt_mono {a a' b : Nat} (h : sub a a') (q : mt a b) : mt a' b := by
  obtain ⟨k, h1, h2⟩ := mt_iff.mp q
  exact mt_iff.mpr ⟨k, sub_iff.mp h k h1, h2⟩
theorem bit_high {n a k : Nat} (h : a < 2 ^ n) (hk : n ≤ k) : a.testBit k = false := Nat.testBit_lt_two_pow (Nat.lt_of_lt_of_le h (Nat.pow_le_pow_right (by decide) hk))
theorem bit_low {n a k : Nat} (h : a < 2 ^ n) (hk : a.testBit k = true) : k < n := by
  rcases Nat.lt_or_ge k n with z | z
  · exact z
  · rw [bit_high h z] at hk; cases hk
def rst (m a : Nat) : Nat := 2 ^ m - (a + 1)
theorem rst_bit {m a : Nat} (h : a < 2 ^ m) (k : Nat) : (rst m a).testBit k = (decide (k < m) && !a.testBit k) := Nat.testBit_two_pow_sub_succ h k
theorem rst_lt (m a : Nat) : rst m a < 2 ^ m := by
  have := Nat.two_pow_pos m
  unfold rst
  omega
theorem rst_rst {m a : Nat} (h : a < 2 ^ m) : rst m (rst m a) = a := by unfold rst; omega
theorem sub_rst {m a b : Nat} (ha : a < 2 ^ m) (hb : b < 2 ^ m) : sub a (rst m b) ↔ ¬ mt a b := by
  rw [sub_iff, mt_iff]
  constructor
  · rintro h ⟨k, h1, h2⟩
    have := h k h1
    rw [rst_bit hb, h2] at this
    simp at this
  · intro h k hk
    rw [rst_bit hb]
    have hm := bit_low ha hk
    cases hb' : b.testBit k
    · simp [hm]
    · exact absurd ⟨k, hk, hb'⟩ h
def less (a k : Nat) : Nat := a - 2 ^ k
theorem xor_bit {a k : Nat} (h : a.testBit k = true) : a = (a ^^^ 2 ^ k) + 2 ^ k := by
  have e : (a ^^^ 2 ^ k) &&& 2 ^ k = 0 := by
    refine Nat.eq_of_testBit_eq fun j => ?_
    rw [Nat.testBit_and, Nat.testBit_xor, Nat.testBit_two_pow, Nat.zero_testBit]
    by_cases c : k = j
    · subst c; simp [h]
    · simp [c]
  have key : ∀ n x y : Nat, x < 2 ^ n → x &&& y = 0 → x + y = x ||| y := by
    intro n
    induction n with
    | zero => intro x y hx _; have : x = 0 := by omega
              subst this; simp
    | succ n ih =>
      intro x y hx h
      have q := ih (x / 2) (y / 2) (by rw [Nat.pow_succ] at hx; omega) (by rw [← Nat.and_div_two, h])
      have e1 : (x ||| y) / 2 = x / 2 ||| y / 2 := Nat.or_div_two
      have m2 : x % 2 = 0 ∨ y % 2 = 0 := by
        have := congrArg (fun z => Nat.testBit z 0) h
        simp only [Nat.testBit_and, Nat.testBit_zero, Nat.zero_testBit] at this
        rcases Nat.mod_two_eq_zero_or_one x with z1 | z1 <;> rcases Nat.mod_two_eq_zero_or_one y with z2 | z2 <;> simp [z1, z2] at this ⊢
      have m1 : (x ||| y) % 2 = x % 2 + y % 2 := by
        have := Nat.testBit_or x y 0
        simp only [Nat.testBit_zero] at this
        rcases Nat.mod_two_eq_zero_or_one (x ||| y) with z | z <;> rcases Nat.mod_two_eq_zero_or_one x with z1 | z1 <;> rcases Nat.mod_two_eq_zero_or_one y with z2 | z2 <;> simp [z, z1, z2] at this m2 ⊢
      rw [← e1] at q
      omega
  have := key (a ^^^ 2 ^ k) (a ^^^ 2 ^ k) (2 ^ k) Nat.lt_two_pow_self e
  rw [this]
  refine Nat.eq_of_testBit_eq fun j => ?_
  rw [Nat.testBit_or, Nat.testBit_xor, Nat.testBit_two_pow]
  by_cases c : k = j
  · subst c; simp [h]
  · simp [c]
theorem less_bit {a k : Nat} (h : a.testBit k = true) (j : Nat) : (less a k).testBit j = (a.testBit j && decide (j ≠ k)) := by
  have e : less a k = a ^^^ 2 ^ k := by
    have := xor_bit h
    unfold less
    omega
  rw [e, Nat.testBit_xor, Nat.testBit_two_pow]
  by_cases c : k = j
  · subst c; simp [h]
  · simp [c, Ne.symm c]
theorem less_lt {a k : Nat} (h : a.testBit k = true) : less a k < a := by
  have := xor_bit h
  have := Nat.two_pow_pos k
  unfold less
  omega
theorem less_sub {a k : Nat} (h : a.testBit k = true) : sub (less a k) a := sub_iff.mpr fun j hj => by
  rw [less_bit h, Bool.and_eq_true] at hj
  exact hj.1
def pick (P : Nat → Bool) (L : List Nat) : List Nat := L.foldl (fun found a => if (!(found.any fun b => decide (sub b a)) && P a) = true then found ++ [a] else found) []
def isMin (P : Nat → Bool) (L : List Nat) (a : Nat) : Prop := P a = true ∧ ∀ b ∈ L, P b = true → sub b a → b = a
instance (P : Nat → Bool) (L : List Nat) (a : Nat) : Decidable (isMin P L a) := inferInstanceAs (Decidable (_ ∧ _))
theorem min_below (P : Nat → Bool) (L : List Nat) : ∀ (n b : Nat), b ≤ n → b ∈ L → P b = true → ∃ c ∈ L, isMin P L c ∧ sub c b
  | n, b, hn, hb, hP => by
    by_cases c : ∃ d ∈ L, P d = true ∧ sub d b ∧ d ≠ b
    · obtain ⟨d, hd, hPd, hs, hne⟩ := c
      have hlt : d < b := Nat.lt_of_le_of_ne (sub_le hs) hne
      match n with
      | 0 => omega
      | n + 1 =>
        obtain ⟨e, he, hm, hse⟩ := min_below P L n d (by omega) hd hPd
        exact ⟨e, he, hm, sub_trans hse hs⟩
    · refine ⟨b, hb, ⟨hP, fun d hd hPd hs => ?_⟩, sub_refl b⟩
      by_cases e : d = b
      · exact e
      · exact absurd ⟨d, hd, hPd, hs, e⟩ c
theorem snoc_ind {p : List Nat → Prop} (h0 : p []) (h1 : ∀ L a, p L → p (L ++ [a])) (L : List Nat) : p L := by
  have : ∀ M : List Nat, p M.reverse := by
    intro M
    induction M with
    | nil => exact h0
    | cons a M ih => rw [List.reverse_cons]; exact h1 _ _ ih
  have := this L.reverse
  rwa [List.reverse_reverse] at this
theorem pick_snoc (P : Nat → Bool) (L : List Nat) (a : Nat) : pick P (L ++ [a]) = if (!((pick P L).any fun b => decide (sub b a)) && P a) = true then pick P L ++ [a] else pick P L := by
  unfold pick
  rw [List.foldl_append]
  rfl
theorem pick_eq (P : Nat → Bool) (L : List Nat) (hL : L.Pairwise (· < ·)) : pick P L = L.filter fun a => decide (isMin P L a) := by
  revert hL
  refine snoc_ind (p := fun L => L.Pairwise (· < ·) → pick P L = L.filter fun a => decide (isMin P L a)) (fun _ => rfl) (fun L a ih hL => ?_) L
  obtain ⟨hL1, _, hlt⟩ := List.pairwise_append.mp hL
  have hlt : ∀ x ∈ L, x < a := fun x hx => hlt x hx a (by simp)
  have ih := ih hL1
  have e1 : L.filter (fun x => decide (isMin P (L ++ [a]) x)) = L.filter fun x => decide (isMin P L x) := by
    refine List.filter_congr fun x hx => ?_
    rw [decide_eq_decide]
    constructor
    · rintro ⟨h1, h2⟩
      exact ⟨h1, fun b hb => h2 b (List.mem_append_left _ hb)⟩
    · rintro ⟨h1, h2⟩
      refine ⟨h1, fun b hb hP hs => ?_⟩
      rcases List.mem_append.mp hb with z | z
      · exact h2 b z hP hs
      · have : b = a := by simpa using z
        subst this
        have := sub_le hs
        have := hlt x hx
        omega
  rw [pick_snoc, List.filter_append, e1, ← ih]
  have key : (!((pick P L).any fun b => decide (sub b a)) && P a) = decide (isMin P (L ++ [a]) a) := by
    rw [Bool.eq_iff_iff, Bool.and_eq_true, Bool.not_eq_true', decide_eq_true_eq]
    constructor
    · rintro ⟨h1, h2⟩
      refine ⟨h2, fun b hb hP hs => ?_⟩
      rcases List.mem_append.mp hb with z | z
      · exfalso
        obtain ⟨c, hc, hm, hsc⟩ := min_below P L b b (Nat.le_refl _) z hP
        have hin : c ∈ pick P L := by rw [ih]; exact List.mem_filter.mpr ⟨hc, decide_eq_true hm⟩
        have := List.any_eq_false.mp h1 c hin
        exact this (decide_eq_true (sub_trans hsc hs))
      · simpa using z
    · rintro ⟨h1, h2⟩
      refine ⟨?_, h1⟩
      rw [List.any_eq_false]
      intro c hc hd
      rw [ih] at hc
      obtain ⟨c1, c2⟩ := List.mem_filter.mp hc
      have := h2 c (List.mem_append_left _ c1) (of_decide_eq_true c2).1 (of_decide_eq_true hd)
      have := hlt c c1
      omega
  rw [key]
  by_cases c : isMin P (L ++ [a]) a
  · rw [if_pos (decide_eq_true c)]
    simp [c]
  · rw [if_neg (by simpa using c)]
    simp [c]
theorem mem_pick {P : Nat → Bool} {L : List Nat} (hL : L.Pairwise (· < ·)) {a : Nat} : a ∈ pick P L ↔ a ∈ L ∧ isMin P L a := by
  rw [pick_eq P L hL, List.mem_filter, decide_eq_true_eq]
theorem pick_rise {P : Nat → Bool} {L : List Nat} (hL : L.Pairwise (· < ·)) : (pick P L).Pairwise (· < ·) := by
  rw [pick_eq P L hL]
  exact hL.sublist List.filter_sublist
theorem pick_len (P : Nat → Bool) (L : List Nat) : (pick P L).length ≤ L.length := by
  refine snoc_ind (p := fun L => (pick P L).length ≤ L.length) (Nat.le_refl _) (fun L a ih => ?_) L
  rw [pick_snoc]
  split
  · simp; exact ih
  · simp; omega
theorem rise_ext : ∀ {a b : List Nat}, a.Pairwise (· < ·) → b.Pairwise (· < ·) → (∀ x, x ∈ a ↔ x ∈ b) → a = b
  | [], [], _, _, _ => rfl
  | [], y :: b, _, _, h => absurd ((h y).mpr List.mem_cons_self) (by simp)
  | x :: a, [], _, _, h => absurd ((h x).mp List.mem_cons_self) (by simp)
  | x :: a, y :: b, ha, hb, h => by
    obtain ⟨a1, a2⟩ := List.pairwise_cons.mp ha
    obtain ⟨b1, b2⟩ := List.pairwise_cons.mp hb
    have e : x = y := by
      rcases List.mem_cons.mp ((h x).mp List.mem_cons_self) with z | z
      · exact z
      · rcases List.mem_cons.mp ((h y).mpr List.mem_cons_self) with q | q
        · exact q.symm
        · have := b1 x z
          have := a1 y q
          omega
    subst e
    congr 1
    refine rise_ext a2 b2 fun z => ?_
    constructor
    · intro hz
      rcases List.mem_cons.mp ((h z).mp (List.mem_cons_of_mem _ hz)) with q | q
      · have := a1 z hz; omega
      · exact q
    · intro hz
      rcases List.mem_cons.mp ((h z).mpr (List.mem_cons_of_mem _ hz)) with q | q
      · have := b1 z hz; omega
      · exact q
def hitP (fs : List Nat) (a : Nat) : Bool := fs.all fun b => decide (mt a b)
theorem hitP_iff {fs : List Nat} {a : Nat} : hitP fs a = true ↔ ∀ b ∈ fs, mt a b := by
  unfold hitP
  rw [List.all_eq_true]
  simp only [decide_eq_true_eq]
theorem hitP_mono {fs : List Nat} {a b : Nat} (h : sub b a) (q : hitP fs b = true) : hitP fs a = true := hitP_iff.mpr fun c hc => mt_mono h (hitP_iff.mp q c hc)
def hits (m : Nat) (fs : List Nat) : List Nat := pick (hitP fs) (List.range (2 ^ m))
theorem mem_hits {m : Nat} {fs : List Nat} {a : Nat} : a ∈ hits m fs ↔ a < 2 ^ m ∧ hitP fs a = true ∧ ∀ b, b < 2 ^ m → hitP fs b = true → sub b a → b = a := by
  unfold hits
  rw [mem_pick List.pairwise_lt_range, List.mem_range]
  unfold isMin
  simp only [List.mem_range]
theorem hits_rise (m : Nat) (fs : List Nat) : (hits m fs).Pairwise (· < ·) := pick_rise List.pairwise_lt_range
theorem hits_below {m : Nat} {fs : List Nat} {a : Nat} (ha : a < 2 ^ m) (h : hitP fs a = true) : ∃ c ∈ hits m fs, sub c a := by
  obtain ⟨c, hc, hm, hs⟩ := min_below (hitP fs) (List.range (2 ^ m)) a a (Nat.le_refl _) (List.mem_range.mpr ha) h
  exact ⟨c, (mem_pick List.pairwise_lt_range).mpr ⟨hc, hm⟩, hs⟩
theorem sub_lt {m a b : Nat} (h : sub b a) (ha : a < 2 ^ m) : b < 2 ^ m := Nat.lt_of_le_of_lt (sub_le h) ha
def mins (L : List Nat) : List Nat := pick (fun _ => true) L
theorem mem_mins {L : List Nat} (hL : L.Pairwise (· < ·)) {a : Nat} : a ∈ mins L ↔ a ∈ L ∧ ∀ b ∈ L, sub b a → b = a := by
  unfold mins
  rw [mem_pick hL]
  unfold isMin
  simp
theorem mins_below {L : List Nat} (hL : L.Pairwise (· < ·)) {b : Nat} (hb : b ∈ L) : ∃ c ∈ mins L, sub c b := by
  obtain ⟨c, hc, hm, hs⟩ := min_below (fun _ => true) L b b (Nat.le_refl _) hb rfl
  exact ⟨c, (mem_pick hL).mpr ⟨hc, hm⟩, hs⟩
theorem hits_hits {m : Nat} {fs : List Nat} (hr : fs.Pairwise (· < ·)) (hb : ∀ b ∈ fs, b < 2 ^ m) : hits m (hits m fs) = mins fs := by
  refine rise_ext (hits_rise _ _) (pick_rise hr) fun a => ?_
  rw [mem_mins hr]
  -- each set of the family meets all hits
  have meet : ∀ f ∈ fs, hitP (hits m fs) f = true := fun f hf => hitP_iff.mpr fun h hh => mt_comm.mp (hitP_iff.mp (mem_hits.mp hh).2.1 f hf)
  -- what meets all hits holds a set of the family
  have hold : ∀ t, t < 2 ^ m → hitP (hits m fs) t = true → ∃ f ∈ fs, sub f t := fun t ht hp => by
    apply Classical.byContradiction
    intro hn
    have : hitP fs (rst m t) = true := hitP_iff.mpr fun f hf => by
      apply Classical.byContradiction
      intro hm
      have hs : sub f (rst m (rst m t)) := (sub_rst (hb f hf) (rst_lt m t)).mpr fun z => hm (mt_comm.mp z)
      rw [rst_rst ht] at hs
      exact hn ⟨f, hf, hs⟩
    obtain ⟨c, hc, hs⟩ := hits_below (rst_lt m t) this
    exact (sub_rst (sub_lt hs (rst_lt m t)) ht).mp hs (mt_comm.mp (hitP_iff.mp hp c hc))
  constructor
  · intro ha
    obtain ⟨h1, h2, h3⟩ := mem_hits.mp ha
    obtain ⟨f, hf, hs⟩ := hold a h1 h2
    have e := h3 f (hb f hf) (meet f hf) hs
    subst e
    refine ⟨hf, fun b hbm hsb => h3 b (hb b hbm) (meet b hbm) hsb⟩
  · rintro ⟨ha, hmin⟩
    refine mem_hits.mpr ⟨hb a ha, meet a ha, fun b hbl hp hs => ?_⟩
    obtain ⟨f, hf, hsf⟩ := hold b hbl hp
    have e := hmin f hf (sub_trans hsf hs)
    subst e
    exact sub_anti hs hsf
end Fam
namespace Fam
def isMax (L : List Nat) (a : Nat) : Prop := ∀ b ∈ L, sub a b → b = a
instance (L : List Nat) (a : Nat) : Decidable (isMax L a) := inferInstanceAs (Decidable (∀ b ∈ L, _))
theorem max_above (L : List Nat) (M : Nat) (hM : ∀ x ∈ L, x < M) : ∀ (n b : Nat), M ≤ b + n → b ∈ L → ∃ c ∈ L, isMax L c ∧ sub b c
  | n, b, hn, hb => by
    by_cases c : ∃ d ∈ L, sub b d ∧ d ≠ b
    · obtain ⟨d, hd, hs, hne⟩ := c
      have hlt : b < d := Nat.lt_of_le_of_ne (sub_le hs) (Ne.symm hne)
      match n with
      | 0 => have := hM b hb; omega
      | n + 1 =>
        obtain ⟨e, he, hm, hse⟩ := max_above L M hM n d (by omega) hd
        exact ⟨e, he, hm, sub_trans hs hse⟩
    · refine ⟨b, hb, fun d hd hs => ?_, sub_refl b⟩
      by_cases e : d = b
      · exact e
      · exact absurd ⟨d, hd, hs, e⟩ c
def sayP (fs : List Nat) (a : Nat) : Bool := fs.any fun b => decide (sub b a)
theorem sayP_iff {fs : List Nat} {a : Nat} : sayP fs a = true ↔ ∃ b ∈ fs, sub b a := by
  unfold sayP
  rw [List.any_eq_true]
  simp only [decide_eq_true_eq]
theorem sayP_mono {fs : List Nat} {a b : Nat} (h : sub b a) (q : sayP fs b = true) : sayP fs a = true := by
  obtain ⟨c, hc, hs⟩ := sayP_iff.mp q
  exact sayP_iff.mpr ⟨c, hc, sub_trans hs h⟩
theorem say_mins {fs : List Nat} (hr : fs.Pairwise (· < ·)) (a : Nat) : sayP (mins fs) a = sayP fs a := by
  rw [Bool.eq_iff_iff, sayP_iff, sayP_iff]
  constructor
  · rintro ⟨b, hb, hs⟩
    exact ⟨b, ((mem_mins hr).mp hb).1, hs⟩
  · rintro ⟨b, hb, hs⟩
    obtain ⟨c, hc, hs'⟩ := mins_below hr hb
    exact ⟨c, hc, sub_trans hs' hs⟩
def nms (n a : Nat) : List Nat := (List.range n).filter fun k => a.testBit k
theorem mem_nms {n a k : Nat} : k ∈ nms n a ↔ k < n ∧ a.testBit k = true := by
  unfold nms
  rw [List.mem_filter, List.mem_range]
def ofN (L : List Nat) : Nat := L.foldl (fun z k => z ||| 2 ^ k) 0
theorem ofN_bit (L : List Nat) (j : Nat) : (ofN L).testBit j = decide (j ∈ L) := by
  have key : ∀ (L : List Nat) (z : Nat), (L.foldl (fun z k => z ||| 2 ^ k) z).testBit j = (z.testBit j || decide (j ∈ L)) := fun L => by
    induction L with
    | nil => intro z; simp
    | cons k L ih =>
      intro z
      rw [List.foldl_cons, ih, Nat.testBit_or, Nat.testBit_two_pow, Bool.or_assoc]
      congr 1
      by_cases c : k = j
      · subst c; simp
      · simp [c, Ne.symm c]
  unfold ofN
  rw [key]
  simp
theorem ofN_lt {L : List Nat} {n : Nat} (h : ∀ k ∈ L, k < n) : ofN L < 2 ^ n := by
  refine Nat.lt_pow_two_of_testBit _ fun k hk => ?_
  rw [ofN_bit, decide_eq_false_iff_not]
  intro z
  have := h k z
  omega
end Fam
namespace L2
open PySem PySem.Spec PyProof.Rows
abbrev nI (fs : List Nat) : List Int := fs.map fun (n : Nat) => (n : Int)
abbrev nV (fs : List Nat) : List V := (nI fs).map V.int
theorem nV_len (fs : List Nat) : (nV fs).length = fs.length := by simp
theorem nV_get {fs : List Nat} {i : Nat} {x : V} (h : (nV fs)[i]? = some x) : ∃ a, fs[i]? = some a ∧ x = .int (a : Nat) := by
  rw [List.getElem?_map, List.getElem?_map] at h
  cases e : fs[i]? with
  | none => rw [e] at h; cases h
  | some a => rw [e] at h; cases h; exact ⟨a, rfl, rfl⟩
theorem nV_at {fs : List Nat} {i a : Nat} (h : fs[i]? = some a) : (nV fs)[i]? = some (.int (a : Nat)) := by
  rw [List.getElem?_map, List.getElem?_map, h]
  rfl
theorem nV_mem {fs : List Nat} {x : V} (h : x ∈ nV fs) : ∃ a ∈ fs, x = .int (a : Nat) := by
  obtain ⟨z, hz, rfl⟩ := List.mem_map.mp h
  obtain ⟨a, ha, rfl⟩ := List.mem_map.mp hz
  exact ⟨a, ha, rfl⟩
theorem nV_snoc (fs : List Nat) (a : Nat) : nV fs ++ [V.int (a : Nat)] = nV (fs ++ [a]) := by simp
theorem nV_append (fs gs : List Nat) : nV fs ++ nV gs = nV (fs ++ gs) := by simp
theorem inV_n (a : Nat) (fs : List Nat) : inV (.int (a : Nat)) (nV fs) = decide (a ∈ fs) := by
  rw [inV_ints]
  refine decide_eq_decide.mpr ?_
  rw [List.mem_map]
  constructor
  · rintro ⟨b, hb, e⟩
    have : b = a := by omega
    exact this ▸ hb
  · intro h
    exact ⟨a, h, rfl⟩
theorem flat_n (fs : List Nat) : (nV fs).all flatV = true := flat_ints _
theorem nonneg_nI {ms : List Int} (h : ∀ z ∈ ms, 0 ≤ z) : nI (ms.map Int.toNat) = ms := by
  rw [nI, List.map_map]
  conv => rhs; rw [← List.map_id ms]
  refine List.map_congr_left fun z hz => ?_
  have := h z hz
  show ((z.toNat : Nat) : Int) = z
  omega
def sd (fs : List Nat) : List Nat := (List.range (fs.foldl max 0 + 1)).filter fun x => decide (x ∈ fs)
theorem max_ge (fs : List Nat) : ∀ z, z ≤ fs.foldl max z ∧ ∀ x ∈ fs, x ≤ fs.foldl max z := by
  induction fs with
  | nil => intro z; exact ⟨Nat.le_refl _, fun x hx => by cases hx⟩
  | cons a fs ih =>
    intro z
    obtain ⟨h1, h2⟩ := ih (max z a)
    rw [List.foldl_cons]
    refine ⟨by omega, fun x hx => ?_⟩
    rcases List.mem_cons.mp hx with rfl | hx
    · omega
    · exact h2 x hx
theorem mem_sd {fs : List Nat} {x : Nat} : x ∈ sd fs ↔ x ∈ fs := by
  unfold sd
  rw [List.mem_filter, List.mem_range, decide_eq_true_eq]
  exact ⟨fun h => h.2, fun h => ⟨by have := (max_ge fs 0).2 x h; omega, h⟩⟩
theorem sd_rise (fs : List Nat) : (sd fs).Pairwise (· < ·) := List.pairwise_lt_range.sublist List.filter_sublist
theorem sd_eq {fs gs : List Nat} (h : gs.Pairwise (· < ·)) (e : ∀ x, x ∈ gs ↔ x ∈ fs) : gs = sd fs := Fam.rise_ext h (sd_rise fs) fun x => (e x).trans mem_sd.symm
theorem sd_self {fs : List Nat} (h : fs.Pairwise (· < ·)) : sd fs = fs := (sd_eq h fun _ => Iff.rfl).symm
theorem sorted_sd {fs : List Nat} {ms : List Int} (h1 : ms.Perm (dedup (nI fs))) (h2 : ms.Pairwise (· ≤ ·)) : ms = nI (sd fs) := by
  have nn : ∀ z ∈ ms, 0 ≤ z := fun z hz => by
    have := mem_dedup.mp (h1.mem_iff.mp hz)
    obtain ⟨a, _, rfl⟩ := List.mem_map.mp this
    omega
  have e := nonneg_nI nn
  rw [← e]
  congr 1
  have nd : ms.Nodup := h1.nodup_iff.mpr (nodup_dedup _)
  refine sd_eq ?_ fun x => ?_
  · rw [List.pairwise_map]
    have := List.pairwise_iff_getElem.mp h2
    have nd' := List.pairwise_iff_getElem.mp nd
    rw [List.pairwise_iff_getElem]
    intro i j hi hj hij
    have a1 := this i j hi hj hij
    have a2 : ms[i] ≠ ms[j] := nd' i j hi hj hij
    have a3 := nn ms[i] (List.getElem_mem _)
    omega
  · rw [List.mem_map]
    constructor
    · rintro ⟨z, hz, rfl⟩
      have := mem_dedup.mp (h1.mem_iff.mp hz)
      obtain ⟨a, ha, rfl⟩ := List.mem_map.mp this
      simpa using ha
    · intro hx
      exact ⟨x, h1.mem_iff.mpr (mem_dedup.mpr (List.mem_map.mpr ⟨x, hx, rfl⟩)), by simp⟩
theorem sorted_nd {fs : List Nat} {ms : List Int} (hn : fs.Nodup) (h1 : ms.Perm (nI fs)) (h2 : ms.Pairwise (· ≤ ·)) : ms = nI (sd fs) := by
  refine sorted_sd (h1.trans ?_) h2
  have : (nI fs).Nodup := by
    rw [nI, List.Nodup, List.pairwise_map]
    exact hn.imp fun h e => h (by omega)
  refine (List.perm_ext_iff_of_nodup this (nodup_dedup _)).mpr fun z => ?_
  rw [mem_dedup]
end L2
namespace L2
open PySem PySem.Spec PyProof.Rows
section
variable {K : PySem.W.Frag} {g : TG} {σ : St} {H : Hp} {a : Addr} {xs : List V} {nt : Nat} {caps : List Nat} {tt : TT} {te : TE} {Q : VK}
theorem compLg (Pv : Nat → List V → Hp → Prop) (h0 : Pv 0 [] H) (hz : xs.length ≤ sizeLine) (hl : ∀ i ys H1, i ≤ xs.length → Pv i ys H1 → SqL K H1 a xs ∧ ys.length ≤ i)
    (hs : ∀ i x ys H1, xs[i]? = some x → Pv i ys H1 → ∀ (R : VK) (R' : Hp → Prop), (∀ y H2, Pv (i + 1) (ys ++ [y]) H2 → R y H2) → (∀ H2, Pv (i + 1) ys H2 → R' H2) →
      g x (capSt nt caps σ) H1 fun σ4 H4 => tt σ4 H4 fun b H5 => if b = true then te σ4 H5 R else R' H5)
    (hd : ∀ ys H1, Pv xs.length ys H1 → ∀ p, H1 p = none → Q (.ref p) (upd H1 p (.lst ys))) : CompJ (Itl K a) nt caps g tt te σ H Q := by
  refine ⟨fun i m ys H1 => m = xs.length - i ∧ i ≤ xs.length ∧ Pv i ys H1, ⟨_, rfl, Nat.zero_le _, h0⟩, ?_⟩
  rintro i m ys H2 ⟨rfl, hi, p⟩
  obtain ⟨q, hy⟩ := hl i ys H2 hi p
  by_cases hlt : i < xs.length
  · refine .inr ⟨⟨xs, xs[i], q, by simp [hlt]⟩, by omega, fun x H3 y => ?_⟩
    obtain ⟨e, y⟩ := y
    subst e
    exact hs i x ys _ (y xs q) p _ _ (fun v H4 w => ⟨xs.length - (i + 1), by omega, rfl, hlt, w⟩) fun H4 w => ⟨xs.length - (i + 1), by omega, rfl, hlt, w⟩
  · obtain rfl : i = xs.length := by omega
    exact .inl ⟨⟨xs, q, Nat.le_refl _⟩, by omega, hd ys H2 p⟩
theorem compRg {lo : Int} {n : Nat} (Pv : Nat → List V → Hp → Prop) (h0 : Pv 0 [] H) (hz : n ≤ sizeLine) (hl : ∀ i ys H1, i ≤ n → Pv i ys H1 → ys.length ≤ i)
    (hs : ∀ i ys H1, i < n → Pv i ys H1 → ∀ (R : VK) (R' : Hp → Prop), (∀ y H2, Pv (i + 1) (ys ++ [y]) H2 → R y H2) → (∀ H2, Pv (i + 1) ys H2 → R' H2) →
      g (.int (lo + i)) (capSt nt caps σ) H1 fun σ4 H4 => tt σ4 H4 fun b H5 => if b = true then te σ4 H5 R else R' H5)
    (hd : ∀ ys H1, Pv n ys H1 → ∀ p, H1 p = none → Q (.ref p) (upd H1 p (.lst ys))) : CompJ (Itr lo n) nt caps g tt te σ H Q := by
  refine ⟨fun i m ys H1 => m = n - i ∧ i ≤ n ∧ Pv i ys H1, ⟨_, rfl, Nat.zero_le _, h0⟩, ?_⟩
  rintro i m ys H2 ⟨rfl, hi, p⟩
  have hy := hl i ys H2 hi p
  by_cases hlt : i < n
  · refine .inr ⟨hlt, by omega, fun x H3 y => ?_⟩
    obtain ⟨e, y⟩ := y
    subst e y
    exact hs i ys _ hlt p _ _ (fun v H4 w => ⟨n - (i + 1), by omega, rfl, hlt, w⟩) fun H4 w => ⟨n - (i + 1), by omega, rfl, hlt, w⟩
  · obtain rfl : i = n := by omega
    exact .inl ⟨Nat.le_refl _, by omega, hd ys H2 p⟩
theorem compRs {n : Nat} (c : Nat → Bool) (f : Nat → V) (hz : n ≤ 100000)
    (hs : ∀ k, k < n → ∀ H1, Same H H1 → ∀ (R : VK) (R' : Hp → Prop), (c k = true → ∀ H2, Same H1 H2 → R (f k) H2) → (c k = false → ∀ H2, Same H1 H2 → R' H2) →
      g (.int (k : Nat)) (capSt nt caps σ) H1 fun σ4 H4 => tt σ4 H4 fun b H5 => if b = true then te σ4 H5 R else R' H5)
    (hd : ∀ H1 p, Same H H1 → H1 p = none → Q (.ref p) (upd H1 p (.lst (((List.range n).filter c).map f)))) : CompJ (Itr 0 n) nt caps g tt te σ H Q := by
  refine compRg (fun i ys H1 => Same H H1 ∧ ys = ((List.range i).filter c).map f) ⟨Same.refl _, rfl⟩ (Nat.le_trans hz (by decide)) (fun i ys H1 _ h => ?_) (fun i ys H1 hi h R R' r1 r2 => ?_) fun ys H1 h p hp => ?_
  · rw [h.2, List.length_map]
    exact Nat.le_trans (List.length_filter_le _ _) (by simp)
  · obtain ⟨sm, rfl⟩ := h
    rw [Int.zero_add]
    refine hs i hi H1 sm R R' (fun hc H2 s2 => r1 _ _ ⟨sm.trans s2, ?_⟩) fun hc H2 s2 => r2 _ ⟨sm.trans s2, ?_⟩
    · rw [List.range_succ, List.filter_append, List.map_append]; simp [hc]
    · rw [List.range_succ, List.filter_append, List.map_append]; simp [hc]
  · rw [h.2]
    exact hd H1 p h.1 hp
theorem compLs {fs : List V} (c : V → Bool) (f : V → V) (hq : SqL K H a fs) (hz : fs.length ≤ 100000)
    (hs : ∀ x ∈ fs, ∀ H1, Same H H1 → ∀ (R : VK) (R' : Hp → Prop), (c x = true → ∀ H2, Same H1 H2 → R (f x) H2) → (c x = false → ∀ H2, Same H1 H2 → R' H2) →
      g x (capSt nt caps σ) H1 fun σ4 H4 => tt σ4 H4 fun b H5 => if b = true then te σ4 H5 R else R' H5)
    (hd : ∀ H1 p, Same H H1 → H1 p = none → Q (.ref p) (upd H1 p (.lst ((fs.filter c).map f)))) : CompJ (Itl K a) nt caps g tt te σ H Q := by
  refine compLg (xs := fs) (fun i ys H1 => Same H H1 ∧ ys = ((fs.take i).filter c).map f) ⟨Same.refl _, rfl⟩ (Nat.le_trans hz (by decide)) (fun i ys H1 hi h => ⟨h.1.seq hq, ?_⟩) (fun i x ys H1 hx h R R' r1 r2 => ?_) fun ys H1 h p hp => ?_
  · rw [h.2, List.length_map]
    exact Nat.le_trans (List.length_filter_le _ _) (by rw [List.length_take]; omega)
  · obtain ⟨sm, rfl⟩ := h
    have ex := take_succ_filter c fs i x hx
    refine hs x (List.mem_of_getElem? hx) H1 sm R R' (fun hc H2 s2 => r1 _ _ ⟨sm.trans s2, ?_⟩) fun hc H2 s2 => r2 _ ⟨sm.trans s2, ?_⟩
    · rw [ex, hc, if_pos rfl, List.map_append]; rfl
    · rw [ex, hc, if_neg Bool.false_ne_true, List.append_nil]
  · rw [h.2, List.take_length]
    exact hd H1 p h.1 hp
theorem compNs {fs : List Nat} (c : Nat → Bool) (f : Nat → V) (hq : SqL K H a (nV fs)) (hz : fs.length ≤ 100000)
    (hs : ∀ x ∈ fs, ∀ H1, Same H H1 → ∀ (R : VK) (R' : Hp → Prop), (c x = true → ∀ H2, Same H1 H2 → R (f x) H2) → (c x = false → ∀ H2, Same H1 H2 → R' H2) →
      g (.int (x : Nat)) (capSt nt caps σ) H1 fun σ4 H4 => tt σ4 H4 fun b H5 => if b = true then te σ4 H5 R else R' H5)
    (hd : ∀ H1 p, Same H H1 → H1 p = none → Q (.ref p) (upd H1 p (.lst ((fs.filter c).map f)))) : CompJ (Itl K a) nt caps g tt te σ H Q := by
  refine compLs (fs := nV fs) (fun v => match v with | .int i => c i.toNat | _ => false) (fun v => match v with | .int i => f i.toNat | _ => .non) hq (by rw [nV_len]; exact hz) (fun x hx H1 sm R R' r1 r2 => ?_) fun H1 p sm hp => ?_
  · obtain ⟨b, hb, rfl⟩ := nV_mem hx
    refine hs b hb H1 sm R R' (fun hc => ?_) fun hc => ?_
    · have := r1 (by simpa using hc)
      simpa using this
    · exact r2 (by simpa using hc)
  · have e : ((nV fs).filter (fun v => match v with | .int i => c i.toNat | _ => false)).map (fun v => match v with | .int i => f i.toNat | _ => .non) = (fs.filter c).map f := by
      rw [nV, nI, List.map_map, List.filter_map, List.map_map]
      rfl
    rw [e]
    exact hd H1 p sm hp
end
theorem small5 {n : Nat} (h : n ≤ 100000) : n ≤ sizeLine := Nat.le_trans h (by decide)
theorem small5' {n : Nat} (h : n ≤ 100000) : n < sizeLine := Nat.lt_of_le_of_lt h (by decide)
theorem ite_of {b : Bool} {A B : Prop} (h1 : b = true → A) (h2 : b = false → B) : if b = true then A else B := by
  cases b
  · exact iteF (h2 rfl)
  · exact iteT (h1 rfl)
theorem ite_iff {P A B : Prop} [Decidable P] {b : Bool} (e : P ↔ b = true) (h1 : b = true → A) (h2 : b = false → B) : if P then A else B := by
  by_cases c : P
  · rw [if_pos c]; exact h1 (e.mp c)
  · rw [if_neg c]; exact h2 (by cases b with | false => rfl | true => exact absurd (e.mpr rfl) c)
theorem new_at {H H' : Hp} {p : Addr} {o : HO} (e : upd H p o = H') : H' p = some o := e ▸ upd_same
theorem new_sm {H H' : Hp} {p : Addr} {o : HO} (e : upd H p o = H') (h : H p = none) : Same H H' := e ▸ Same.new h
theorem ne_new {H : Hp} {p q : Addr} {o : HO} (h : H p = none) (hq : H q = some o) : q ≠ p := fun z => by rw [z, h] at hq; cases hq
theorem old_none {H H' : Hp} {p : Addr} (s : Same H H') (h : H' p = none) : H p = none := by
  cases e : H p with
  | none => rfl
  | some o => rw [s _ _ e] at h; cases h
theorem atI_n {fs : List Nat} {i b : Nat} (h : fs[i]? = some b) : atI (nV fs) (i : Int) = some (.int (b : Nat)) := by
  have hl := (List.getElem?_eq_some_iff.mp h).1
  unfold atI ixN
  rw [if_pos (by omega), if_pos (by rw [nV_len]; omega)]
  show (nV fs)[(i : Int).toNat]? = _
  rw [Int.toNat_natCast]
  exact nV_at h
theorem upd_self {H : Hp} {p : Addr} {o : HO} (h : H p = some o) : H = upd H p o := funext fun x => by
  by_cases c : x = p
  · rw [c, upd_same, h]
  · rw [upd_ne c]
theorem sd_le (fs : List Nat) {n : Nat} (h : fs.length ≤ n) : (sd fs).length ≤ n := by
  have nd : (nI (sd fs)).Nodup := by
    rw [nI, List.Nodup, List.pairwise_map]
    exact (sd_rise fs).imp fun h e => by omega
  have p : (nI (sd fs)).Perm (dedup (nI fs)) := (List.perm_ext_iff_of_nodup nd (nodup_dedup _)).mpr fun z => by
    rw [mem_dedup, List.mem_map, List.mem_map]
    exact ⟨fun ⟨x, hx, e⟩ => ⟨x, mem_sd.mp hx, e⟩, fun ⟨x, hx, e⟩ => ⟨x, mem_sd.mpr hx, e⟩⟩
  have e1 := p.length_eq
  have e2 := dedup_len (nI fs)
  simp at e1 e2
  omega
theorem nV_range (n : Nat) (c : Nat → Bool) : ((List.range n).filter c).map (fun k => V.int (k : Nat)) = nV ((List.range n).filter c) := by simp
theorem nV_map (fs : List Nat) : fs.map (fun k => V.int (k : Nat)) = nV fs := by simp
end L2
namespace L2
open PySem PySem.Spec PyProof.Rows
theorem cut_take (xs : List V) (n : Nat) : cutV xs none (some (n : Int)) = xs.take n := by
  unfold cutV
  rw [HT.sIx_nat]
  show (xs.drop 0).take (min n xs.length - 0) = _
  rw [List.drop_zero, Nat.sub_zero, List.take_eq_take_iff]
  omega
theorem cut_mid (xs : List V) (i j : Nat) : cutV xs (some (i : Int)) (some (j : Int)) = (xs.drop i).take (j - i) := by
  unfold cutV
  rw [HT.sIx_nat, HT.sIx_nat]
  rcases Nat.lt_or_ge i xs.length with z | z
  · rw [Nat.min_eq_left (Nat.le_of_lt z), List.take_eq_take_iff, List.length_drop]
    omega
  · rw [Nat.min_eq_right z, List.drop_eq_nil_of_le z, List.drop_eq_nil_of_le (Nat.le_refl _)]
    simp
end L2
namespace L2
open PySem PySem.Spec PyProof.Rows
section
variable {K : PySem.W.Frag} {g : TG} {tb : TS} {D : Ends} {σ : St} {H : Hp} {a : Addr} {xs : List V} {c : TT}
theorem loopRn {n : Nat} (Pv : Nat → St → Hp → Prop) (h0 : Pv 0 σ H)
    (hs : ∀ i σ H, i < n → Pv i σ H → ∀ N : St → Hp → Prop, (∀ σ' H', Pv (i + 1) σ' H' → N σ' H') → g (.int (i : Nat)) σ H fun σ2 H2 => tb { D with nx := N, ct := N, bk := D.nx } σ2 H2) (hd : ∀ σ H, Pv n σ H → D.nx σ H) : LoopJ (Itr 0 n) g tb D σ H :=
  loopR Pv h0 (fun i σ H hi p => by rw [Int.zero_add]; exact hs i σ H hi p _ fun _ _ q => q) hd
theorem loopLn (Pv : Nat → St → Hp → Prop) (h0 : Pv 0 σ H) (hl : ∀ i σ H, i ≤ xs.length → Pv i σ H → SqL K H a xs)
    (hs : ∀ i x σ H, xs[i]? = some x → Pv i σ H → ∀ N : St → Hp → Prop, (∀ σ' H', Pv (i + 1) σ' H' → N σ' H') → g x σ H fun σ2 H2 => tb { D with nx := N, ct := N, bk := D.nx } σ2 H2) (hd : ∀ σ H, Pv xs.length σ H → D.nx σ H) : LoopJ (Itl K a) g tb D σ H :=
  loopL Pv h0 hl (fun i x σ H hx p => hs i x σ H hx p _ fun _ _ q => q) hd
theorem loopNn {fs : List Nat} (Pv : Nat → St → Hp → Prop) (h0 : Pv 0 σ H) (hl : ∀ i σ H, i ≤ fs.length → Pv i σ H → SqL K H a (nV fs))
    (hs : ∀ i b σ H, fs[i]? = some b → Pv i σ H → ∀ N : St → Hp → Prop, (∀ σ' H', Pv (i + 1) σ' H' → N σ' H') → g (.int (b : Nat)) σ H fun σ2 H2 => tb { D with nx := N, ct := N, bk := D.nx } σ2 H2) (hd : ∀ σ H, Pv fs.length σ H → D.nx σ H) : LoopJ (Itl K a) g tb D σ H :=
  loopL (xs := nV fs) Pv h0 (fun i σ H hi p => hl i σ H (by rwa [nV_len] at hi) p) (fun i x σ H hx p => by
    obtain ⟨b, hb, rfl⟩ := nV_get hx
    exact hs i b σ H hb p _ fun _ _ q => q) fun σ H p => hd σ H (by rwa [nV_len] at p)
theorem loopVn {fs : List Nat} (Pv : Nat → St → Hp → Prop) (h0 : Pv 0 σ H) (hl : ∀ i σ H, i ≤ fs.length → Pv i σ H → SqL K H a (nV fs))
    (hs : ∀ i b σ H, fs.reverse[i]? = some b → Pv i σ H → ∀ N : St → Hp → Prop, (∀ σ' H', Pv (i + 1) σ' H' → N σ' H') → g (.int (b : Nat)) σ H fun σ2 H2 => tb { D with nx := N, ct := N, bk := D.nx } σ2 H2) (hd : ∀ σ H, Pv fs.length σ H → D.nx σ H) : LoopJ (Itv K a (nV fs)) g tb D σ H :=
  loopV Pv h0 (fun i σ H hi p => hl i σ H (by rwa [nV_len] at hi) p) (fun i x σ H hx p => by
    rw [show (nV fs).reverse = nV fs.reverse by simp] at hx
    obtain ⟨b, hb, rfl⟩ := nV_get hx
    exact hs i b σ H hb p _ fun _ _ q => q) fun σ H p => hd σ H (by rwa [nV_len] at p)
theorem whileN (W : Nat → St → Hp → Prop) (m0 : Nat) (h0 : W m0 σ H)
    (hs : ∀ m σ H, W m σ H → ∀ (T : Hp → Prop), (∀ H1, ((∀ N : St → Hp → Prop, (∀ m' σ' H', m' < m → W m' σ' H' → N σ' H') → tb { D with nx := N, ct := N, bk := D.nx } σ H1) → T H1)) → c σ H fun b H1 => if b = true then T H1 else D.nx σ H1) : tWhile c tb D σ H := by
  refine ⟨W, ⟨m0, h0⟩, fun m σ H w => ?_⟩
  exact hs m σ H w (fun H1 => ∃ N : St → Hp → Prop, (∀ σ' H', N σ' H' → ∃ m', m' < m ∧ W m' σ' H') ∧ tb { D with nx := N, ct := N, bk := D.nx } σ H1) fun H1 h => ⟨fun σ' H' => ∃ m', m' < m ∧ W m' σ' H', fun _ _ z => z, h _ fun m' σ' H' l w' => ⟨m', l, w'⟩⟩
end
end L2
namespace L2
open PySem PySem.Spec PyProof.Rows
theorem shr_bit (a k : Nat) : Builtin.bitAnd ((a : Int) / 2 ^ ((k : Nat) : Int).toNat) 1 = if a.testBit k = true then 1 else 0 := by
  have e : (a : Int) / 2 ^ ((k : Nat) : Int).toNat = ((a / 2 ^ k : Nat) : Int) := by rw [Int.toNat_natCast, pow_cast]; rfl
  rw [e, show (1 : Int) = ((1 : Nat) : Int) from rfl, and_nat, Nat.and_one_is_mod, Nat.testBit_eq_decide_div_mod_eq]
  by_cases c : a / 2 ^ k % 2 = 1
  · simp [c]
  · have : a / 2 ^ k % 2 = 0 := by omega
    simp [this]
theorem shr_one (a k : Nat) : decide (Builtin.bitAnd ((a : Int) / 2 ^ ((k : Nat) : Int).toNat) 1 = 1) = a.testBit k := by
  rw [shr_bit]
  cases a.testBit k <;> rfl
theorem shr_nil (a k : Nat) : decide (Builtin.bitAnd ((a : Int) / 2 ^ ((k : Nat) : Int).toNat) 1 = 0) = !a.testBit k := by
  rw [shr_bit]
  cases a.testBit k <;> rfl
theorem shr_iff {a k : Nat} : Builtin.bitAnd ((a : Int) / 2 ^ ((k : Nat) : Int).toNat) 1 = 1 ↔ a.testBit k = true := by
  rw [← shr_one, decide_eq_true_eq]
theorem shl_one (k : Nat) : (1 : Int) * 2 ^ ((k : Nat) : Int).toNat = ((2 ^ k : Nat) : Int) := by rw [Int.one_mul, Int.toNat_natCast, pow_cast]
end L2
namespace Fam
def Up (m : Nat) (f : Nat → Bool) : Prop := ∀ a b, a < 2 ^ m → sub b a → f b = true → f a = true
theorem up_say (m : Nat) (fs : List Nat) : Up m (sayP fs) := fun a b _ h q => sayP_mono h q
def yes (m : Nat) (f : Nat → Bool) : List Nat := (List.range (2 ^ m)).filter f
theorem yes_rise (m : Nat) (f : Nat → Bool) : (yes m f).Pairwise (· < ·) := List.pairwise_lt_range.sublist List.filter_sublist
theorem mem_yes {m : Nat} {f : Nat → Bool} {a : Nat} : a ∈ yes m f ↔ a < 2 ^ m ∧ f a = true := by
  unfold yes
  rw [List.mem_filter, List.mem_range]
theorem say_yes {m : Nat} {f : Nat → Bool} (u : Up m f) {a : Nat} (ha : a < 2 ^ m) : sayP (yes m f) a = f a := by
  rw [Bool.eq_iff_iff, sayP_iff]
  constructor
  · rintro ⟨b, hb, s⟩
    exact u a b ha s (mem_yes.mp hb).2
  · intro h
    exact ⟨a, mem_yes.mpr ⟨ha, h⟩, sub_refl a⟩
theorem say_min_yes {m : Nat} {f : Nat → Bool} (u : Up m f) {a : Nat} (ha : a < 2 ^ m) : sayP (mins (yes m f)) a = f a := by
  rw [say_mins (yes_rise m f), say_yes u ha]
theorem min_yes {m : Nat} {f : Nat → Bool} {a : Nat} (h : a ∈ mins (yes m f)) : a < 2 ^ m ∧ f a = true ∧ ∀ k, a.testBit k = true → f (less a k) = false := by
  obtain ⟨h1, h2⟩ := (mem_mins (yes_rise m f)).mp h
  obtain ⟨h3, h4⟩ := mem_yes.mp h1
  refine ⟨h3, h4, fun k hk => ?_⟩
  cases e : f (less a k) with
  | false => rfl
  | true =>
    have l := less_lt hk
    have := h2 _ (mem_yes.mpr ⟨Nat.lt_trans l h3, e⟩) (less_sub hk)
    omega
def more (a k : Nat) : Nat := a + 2 ^ k
theorem more_or {a k : Nat} (h : a.testBit k = false) : more a k = a ||| 2 ^ k := by
  have hb : (a ||| 2 ^ k).testBit k = true := by simp [Nat.testBit_or, Nat.testBit_two_pow_self]
  have e := xor_bit hb
  have e2 : (a ||| 2 ^ k) ^^^ 2 ^ k = a := by
    apply Nat.eq_of_testBit_eq
    intro j
    rw [Nat.testBit_xor, Nat.testBit_or]
    rcases Nat.decEq k j with z | z
    · rw [Nat.testBit_two_pow_of_ne z]
      simp
    · subst z
      rw [Nat.testBit_two_pow_self, h]
      rfl
  rw [e2] at e
  unfold more
  omega
theorem more_lt {m a k : Nat} (h : a.testBit k = false) (ha : a < 2 ^ m) (hk : k < m) : more a k < 2 ^ m := by
  rw [more_or h]
  exact Nat.or_lt_two_pow ha (Nat.pow_lt_pow_right (by decide) hk)
theorem sub_or (a b : Nat) : sub a (a ||| b) := sub_iff.mpr fun k hk => by simp [Nat.testBit_or, hk]
theorem sub_more {a k : Nat} (h : a.testBit k = false) : sub a (more a k) := by
  rw [more_or h]
  exact sub_or _ _
def maxs (L : List Nat) : List Nat := L.filter fun a => decide (isMax L a)
theorem mem_maxs {L : List Nat} {a : Nat} : a ∈ maxs L ↔ a ∈ L ∧ isMax L a := by
  unfold maxs
  rw [List.mem_filter, decide_eq_true_eq]
theorem max_no {m : Nat} {f : Nat → Bool} {a : Nat} (h : a ∈ maxs (yes m fun s => !f s)) : a < 2 ^ m ∧ f a = false ∧ ∀ k, k < m → a.testBit k = false → f (more a k) = true := by
  obtain ⟨h1, h2⟩ := mem_maxs.mp h
  obtain ⟨h3, h4⟩ := mem_yes.mp h1
  refine ⟨h3, by simpa using h4, fun k hm hk => ?_⟩
  cases e : f (more a k) with
  | true => rfl
  | false =>
    have := h2 _ (mem_yes.mpr ⟨more_lt hk h3 hm, by simp [e]⟩) (sub_more hk)
    unfold more at this
    have := Nat.two_pow_pos k
    omega
def heldP (fs : List Nat) (a : Nat) : Bool := fs.any fun b => decide (sub a b)
theorem heldP_iff {fs : List Nat} {a : Nat} : heldP fs a = true ↔ ∃ b ∈ fs, sub a b := by
  unfold heldP
  rw [List.any_eq_true]
  simp only [decide_eq_true_eq]
theorem held_no {m : Nat} {f : Nat → Bool} (u : Up m f) {a : Nat} (ha : a < 2 ^ m) : heldP (maxs (yes m fun s => !f s)) a = !f a := by
  rw [Bool.eq_iff_iff, heldP_iff]
  constructor
  · rintro ⟨b, hb, s⟩
    obtain ⟨h1, h2, _⟩ := max_no hb
    cases e : f a with
    | false => rfl
    | true => rw [u b a h1 s e] at h2; cases h2
  · intro h
    obtain ⟨c, hc, hm, s⟩ := max_above (yes m fun s => !f s) (2 ^ m) (fun x hx => (mem_yes.mp hx).1) (2 ^ m) a (by omega) (mem_yes.mpr ⟨ha, h⟩)
    exact ⟨c, mem_maxs.mpr ⟨hc, hm⟩, s⟩
theorem maxs_rise {L : List Nat} (h : L.Pairwise (· < ·)) : (maxs L).Pairwise (· < ·) := h.sublist List.filter_sublist
theorem say_hits {m : Nat} {fs : List Nat} {a : Nat} (ha : a < 2 ^ m) : sayP (hits m fs) a = hitP fs a := by
  rw [Bool.eq_iff_iff, sayP_iff]
  constructor
  · rintro ⟨b, hb, s⟩
    exact hitP_mono s (mem_hits.mp hb).2.1
  · intro h
    exact hits_below ha h
end Fam
namespace Fam
def rsts (m : Nat) (fs : List Nat) : List Nat := (fs.map (rst m)).reverse
theorem mem_rsts {m : Nat} {fs : List Nat} {a : Nat} : a ∈ rsts m fs ↔ ∃ b ∈ fs, rst m b = a := by
  unfold rsts
  rw [List.mem_reverse, List.mem_map]
theorem rsts_rise {m : Nat} {fs : List Nat} (hr : fs.Pairwise (· < ·)) (hb : ∀ b ∈ fs, b < 2 ^ m) : (rsts m fs).Pairwise (· < ·) := by
  unfold rsts
  rw [List.pairwise_reverse, List.pairwise_map]
  refine List.Pairwise.imp_of_mem (fun {a b} ha hb2 h => ?_) hr
  have := hb a ha
  have := hb b hb2
  unfold rst
  omega
theorem rsts_lt {m : Nat} {fs : List Nat} : ∀ b ∈ rsts m fs, b < 2 ^ m := fun b hb => by
  obtain ⟨a, _, rfl⟩ := mem_rsts.mp hb
  exact rst_lt m a
theorem mins_rise {L : List Nat} (h : L.Pairwise (· < ·)) : (mins L).Pairwise (· < ·) := pick_rise h
theorem hits_lt {m : Nat} {fs : List Nat} : ∀ b ∈ hits m fs, b < 2 ^ m := fun b hb => (mem_hits.mp hb).1
theorem hits_anti {m : Nat} {fs : List Nat} : ∀ a ∈ hits m fs, ∀ b ∈ hits m fs, sub b a → b = a := fun a ha b hb s => (mem_hits.mp ha).2.2 b (mem_hits.mp hb).1 (mem_hits.mp hb).2.1 s
theorem hit_hits {m : Nat} {fs : List Nat} (hr : fs.Pairwise (· < ·)) (hb : ∀ b ∈ fs, b < 2 ^ m) {a : Nat} (ha : a < 2 ^ m) : hitP (hits m fs) a = sayP fs a := by
  rw [← say_hits ha, hits_hits hr hb, say_mins hr]
theorem sub_rst_rst {m a b : Nat} (ha : a < 2 ^ m) (hb : b < 2 ^ m) (h : sub (rst m a) (rst m b)) : sub b a := by
  refine sub_iff.mpr fun k hk => ?_
  have km := bit_low hb hk
  cases e : a.testBit k with
  | true => rfl
  | false =>
    have := sub_iff.mp h k (by rw [rst_bit ha, e]; simp [km])
    rw [rst_bit hb, hk] at this
    simp at this
theorem held_rests {m : Nat} {fs : List Nat} (hr : fs.Pairwise (· < ·)) (hb : ∀ b ∈ fs, b < 2 ^ m) {a : Nat} (ha : a < 2 ^ m) : heldP (rsts m (hits m fs)) a = !sayP fs a := by
  rw [← hit_hits hr hb ha]
  rw [Bool.eq_iff_iff, heldP_iff]
  constructor
  · rintro ⟨b, hbm, s⟩
    obtain ⟨c, hc, rfl⟩ := mem_rsts.mp hbm
    have := (sub_rst ha (hits_lt c hc)).mp s
    cases e : hitP (hits m fs) a with
    | false => rfl
    | true => exact absurd (hitP_iff.mp e c hc) this
  · intro h
    have hn : ¬ ∀ c ∈ hits m fs, mt a c := fun z => by rw [hitP_iff.mpr z] at h; cases h
    obtain ⟨c, hc, hmc⟩ : ∃ c ∈ hits m fs, ¬ mt a c := by
      apply Classical.byContradiction
      intro z
      exact hn fun c hc => Classical.byContradiction fun y => z ⟨c, hc, y⟩
    exact ⟨_, mem_rsts.mpr ⟨c, hc, rfl⟩, (sub_rst ha (hits_lt c hc)).mpr hmc⟩
theorem rsts_anti {m : Nat} {fs : List Nat} (hb : ∀ b ∈ fs, b < 2 ^ m) (q : ∀ a ∈ fs, ∀ b ∈ fs, sub b a → b = a) : ∀ a ∈ rsts m fs, ∀ b ∈ rsts m fs, sub b a → b = a := by
  intro a ha b hbm s
  obtain ⟨c, hc, rfl⟩ := mem_rsts.mp ha
  obtain ⟨d, hd, rfl⟩ := mem_rsts.mp hbm
  rw [q d hd c hc (sub_rst_rst (hb d hd) (hb c hc) s)]
theorem held_ext {m : Nat} {A B : List Nat} (r1 : A.Pairwise (· < ·)) (r2 : B.Pairwise (· < ·)) (b1 : ∀ a ∈ A, a < 2 ^ m) (b2 : ∀ a ∈ B, a < 2 ^ m) (m1 : ∀ a ∈ A, isMax A a) (m2 : ∀ a ∈ B, isMax B a) (h : ∀ a, a < 2 ^ m → heldP A a = heldP B a) : A = B := by
  have key : ∀ {A B : List Nat}, (∀ a ∈ A, a < 2 ^ m) → (∀ a ∈ B, a < 2 ^ m) → (∀ a ∈ A, isMax A a) → (∀ a, a < 2 ^ m → heldP A a = heldP B a) → ∀ a ∈ A, a ∈ B := by
    intro A B b1 b2 m1 h a ha
    have h1 : heldP A a = true := heldP_iff.mpr ⟨a, ha, sub_refl a⟩
    rw [h a (b1 a ha)] at h1
    obtain ⟨b, hb, s⟩ := heldP_iff.mp h1
    have h2 : heldP B b = true := heldP_iff.mpr ⟨b, hb, sub_refl b⟩
    rw [← h b (b2 b hb)] at h2
    obtain ⟨c, hc, s2⟩ := heldP_iff.mp h2
    have := m1 a ha c hc (sub_trans s s2)
    rw [this] at s2
    rw [sub_anti s s2]
    exact hb
  exact rise_ext r1 r2 fun x => ⟨key b1 b2 m1 h x, key b2 b1 m2 (fun a ha => (h a ha).symm) x⟩
theorem noes_by {m : Nat} {f : Nat → Bool} (u : Up m f) : rsts m (hits m (mins (yes m f))) = maxs (yes m fun s => !f s) := by
  have r := mins_rise (yes_rise m f)
  have hb : ∀ a ∈ mins (yes m f), a < 2 ^ m := fun a ha => (min_yes ha).1
  refine held_ext (m := m) (rsts_rise (hits_rise m _) hits_lt) (maxs_rise (yes_rise m _)) rsts_lt (fun a ha => (max_no ha).1) (fun a ha b hb2 s => ?_) (fun a ha b hb2 s => ?_) fun a ha => ?_
  · exact (rsts_anti hits_lt hits_anti b hb2 a ha s).symm
  · exact (mem_maxs.mp ha).2 b (mem_maxs.mp hb2).1 s
  · rw [held_rests r hb ha, held_no u ha, say_min_yes u ha]
end Fam
namespace Fam
theorem nodup_le : ∀ (n : Nat) (L : List Nat), L.Nodup → (∀ x ∈ L, x < n) → L.length ≤ n
  | 0, L, _, h => by
    cases L with
    | nil => exact Nat.le_refl _
    | cons a r => exact absurd (h a (by simp)) (by omega)
  | n + 1, L, hn, h => by
    by_cases hm : n ∈ L
    · have h1 := nodup_le n (L.erase n) (hn.erase n) fun x hx => by
        obtain ⟨h2, h3⟩ := hn.mem_erase_iff.mp hx
        have := h x h3
        omega
      rw [List.length_erase_of_mem hm] at h1
      omega
    · have := nodup_le n L hn fun x hx => by
        have := h x hx
        have : x ≠ n := fun z => hm (z ▸ hx)
        omega
      omega
end Fam
namespace Fam
def clr (a k : Nat) : Nat := if a.testBit k = true then less a k else a
theorem clr_bit (a k j : Nat) : (clr a k).testBit j = (a.testBit j && decide (j ≠ k)) := by
  unfold clr
  by_cases h : a.testBit k = true
  · rw [if_pos h, less_bit h]
  · rw [if_neg h]
    by_cases e : j = k
    · subst e
      simp at h
      simp [h]
    · simp [e]
theorem clr_le (a k : Nat) : clr a k ≤ a := by
  unfold clr less
  split
  · exact Nat.sub_le _ _
  · exact Nat.le_refl _
theorem or_bit (a k j : Nat) : (a ||| 2 ^ k).testBit j = (a.testBit j || decide (k = j)) := by
  rw [Nat.testBit_or, Nat.testBit_two_pow]
theorem mins_sub {L : List Nat} (h : L.Pairwise (· < ·)) : ∀ a ∈ mins L, a ∈ L := fun a ha => ((mem_mins h).mp ha).1
end Fam
namespace Fam
theorem hit_say {m : Nat} {X : List Nat} (hb : ∀ b ∈ X, b < 2 ^ m) {a : Nat} (ha : a < 2 ^ m) : hitP X a = !sayP X (rst m a) := by
  rw [Bool.eq_iff_iff, hitP_iff]
  constructor
  · intro h
    cases e : sayP X (rst m a) with
    | false => rfl
    | true =>
      obtain ⟨b, h1, h2⟩ := sayP_iff.mp e
      exact absurd (mt_comm.mp (h b h1)) ((sub_rst (hb b h1) ha).mp h2)
  · intro h b h1
    apply Classical.byContradiction
    intro z
    have := (sub_rst (hb b h1) ha).mpr fun y => z (mt_comm.mp y)
    rw [sayP_iff.mpr ⟨b, h1, this⟩] at h
    cases h
theorem or_lt {m a k : Nat} (ha : a < 2 ^ m) (hk : k < m) : a ||| 2 ^ k < 2 ^ m := Nat.or_lt_two_pow ha (Nat.pow_lt_pow_right (by decide) hk)
end Fam
namespace Fam
structure Ord (m : Nat) (o : List Nat) : Prop where
  len : o.length = m
  lt : ∀ x ∈ o, x < m
  nd : o.Nodup
def at' (o : List Nat) (k : Nat) : Nat := o.getD k 0
theorem Ord.get {m : Nat} {o : List Nat} (h : Ord m o) {k : Nat} (hk : k < m) : o[k]? = some (at' o k) := by
  unfold at'
  rw [List.getD_eq_getElem?_getD, List.getElem?_eq_getElem (by rw [h.len]; exact hk)]
  rfl
theorem Ord.at_lt {m : Nat} {o : List Nat} (h : Ord m o) {k : Nat} (hk : k < m) : at' o k < m := h.lt _ (List.mem_of_getElem? (h.get hk))
theorem Ord.inj {m : Nat} {o : List Nat} (h : Ord m o) {j k : Nat} (hj : j < m) (hk : k < m) (e : at' o j = at' o k) : j = k := by
  have h1 := h.get hj
  have h2 := h.get hk
  have l := h.len
  obtain ⟨w1, g1⟩ := List.getElem?_eq_some_iff.mp h1
  obtain ⟨w2, g2⟩ := List.getElem?_eq_some_iff.mp h2
  have nd := List.pairwise_iff_getElem.mp h.nd
  rcases Nat.lt_trichotomy j k with z | z | z
  · exact absurd (by rw [g1, g2, e]) (nd j k w1 w2 z)
  · exact z
  · exact absurd (by rw [g1, g2, e]) (nd k j w2 w1 z)
theorem Ord.sur {m : Nat} {o : List Nat} (h : Ord m o) {j : Nat} (hj : j < m) : ∃ k, k < m ∧ at' o k = j := by
  by_cases hm : j ∈ o
  · obtain ⟨k, hk, e⟩ := List.getElem_of_mem hm
    have hk' : k < m := by rw [← h.len]; exact hk
    refine ⟨k, hk', ?_⟩
    have := h.get hk'
    rw [List.getElem?_eq_getElem hk, e] at this
    exact (Option.some.inj this).symm
  · have := nodup_le m (j :: o) (List.nodup_cons.mpr ⟨hm, h.nd⟩) (fun x hx => by
      rcases List.mem_cons.mp hx with rfl | z
      · exact hj
      · exact h.lt x z)
    rw [List.length_cons, h.len] at this
    omega
def ex (o : List Nat) (a : Nat) : Nat := ofN ((nms 8 a).map (at' o))
theorem ex_bit {o : List Nat} {a j : Nat} : (ex o a).testBit j = true ↔ ∃ k, k < 8 ∧ a.testBit k = true ∧ at' o k = j := by
  unfold ex
  rw [ofN_bit, decide_eq_true_eq, List.mem_map]
  constructor
  · rintro ⟨k, hk, e⟩
    obtain ⟨h1, h2⟩ := mem_nms.mp hk
    exact ⟨k, h1, h2, e⟩
  · rintro ⟨k, h1, h2, e⟩
    exact ⟨k, mem_nms.mpr ⟨h1, h2⟩, e⟩
section
variable {m : Nat} {o : List Nat}
theorem ex_lt (h : Ord m o) {a : Nat} (ha : a < 2 ^ m) : ex o a < 2 ^ m := by
  unfold ex
  refine ofN_lt fun j hj => ?_
  obtain ⟨k, hk, rfl⟩ := List.mem_map.mp hj
  exact h.at_lt (bit_low ha (mem_nms.mp hk).2)
theorem ex_at (hm : m ≤ 8) (h : Ord m o) {a k : Nat} (ha : a < 2 ^ m) (hk : k < m) : (ex o a).testBit (at' o k) = a.testBit k := by
  rw [Bool.eq_iff_iff, ex_bit]
  constructor
  · rintro ⟨j, _, h1, e⟩
    rw [← h.inj (bit_low ha h1) hk e]
    exact h1
  · intro hb
    exact ⟨k, by omega, hb, rfl⟩
theorem ex_ext (h : Ord m o) {x y : Nat} (hx : x < 2 ^ m) (hy : y < 2 ^ m) (q : ∀ k, k < m → x.testBit (at' o k) = y.testBit (at' o k)) : x = y := by
  apply Nat.eq_of_testBit_eq
  intro j
  rcases Nat.lt_or_ge j m with z | z
  · obtain ⟨k, hk, rfl⟩ := h.sur z
    exact q k hk
  · rw [bit_high hx z, bit_high hy z]
theorem ex_sub (hm : m ≤ 8) (h : Ord m o) {a b : Nat} (ha : a < 2 ^ m) (hb : b < 2 ^ m) : sub (ex o b) (ex o a) ↔ sub b a := by
  rw [sub_iff, sub_iff]
  constructor
  · intro q k hk
    have km := bit_low hb hk
    have := q (at' o k) (by rw [ex_at hm h hb km]; exact hk)
    rw [ex_at hm h ha km] at this
    exact this
  · intro q j hj
    obtain ⟨k, k8, h1, e⟩ := ex_bit.mp hj
    exact ex_bit.mpr ⟨k, k8, q k h1, e⟩
theorem ex_inj (hm : m ≤ 8) (h : Ord m o) {a b : Nat} (ha : a < 2 ^ m) (hb : b < 2 ^ m) (e : ex o a = ex o b) : a = b :=
  sub_anti ((ex_sub hm h hb ha).mp (by rw [e]; exact sub_refl _)) ((ex_sub hm h ha hb).mp (by rw [e]; exact sub_refl _))
def back (o : List Nat) : List Nat := (List.range o.length).map fun j => o.idxOf j
theorem back_at (h : Ord m o) {j : Nat} (hj : j < m) : at' (back o) j = o.idxOf j := by
  unfold at' back
  rw [List.getD_eq_getElem?_getD, List.getElem?_map, h.len, List.getElem?_range hj]
  rfl
theorem idx_at (h : Ord m o) {k : Nat} (hk : k < m) : o.idxOf (at' o k) = k := by
  have hm := List.mem_of_getElem? (h.get hk)
  have hi : o.idxOf (at' o k) < o.length := List.idxOf_lt_length_iff.mpr hm
  have e : o[o.idxOf (at' o k)] = at' o k := List.getElem_idxOf hi
  have hi' : o.idxOf (at' o k) < m := by rw [← h.len]; exact hi
  refine h.inj hi' hk ?_
  have := h.get hi'
  rw [List.getElem?_eq_getElem hi, e] at this
  exact (Option.some.inj this).symm
theorem back_ord (h : Ord m o) : Ord m (back o) := by
  refine ⟨by unfold back; simp [h.len], fun x hx => ?_, ?_⟩
  · unfold back at hx
    obtain ⟨j, hj, rfl⟩ := List.mem_map.mp hx
    rw [h.len] at hj
    obtain ⟨k, hk, rfl⟩ := h.sur (List.mem_range.mp hj)
    rw [idx_at h hk]
    exact hk
  · unfold back List.Nodup
    rw [List.pairwise_map]
    refine List.Pairwise.imp_of_mem (fun {a b} ha hb hab e => ?_) List.pairwise_lt_range
    rw [h.len] at ha hb
    obtain ⟨j, hj, rfl⟩ := h.sur (List.mem_range.mp ha)
    obtain ⟨k, hk, rfl⟩ := h.sur (List.mem_range.mp hb)
    rw [idx_at h hj, idx_at h hk] at e
    subst e
    omega
theorem ex_back (hm : m ≤ 8) (h : Ord m o) {a : Nat} (ha : a < 2 ^ m) : ex o (ex (back o) a) = a := by
  have hb := back_ord h
  have h1 := ex_lt hb ha
  refine ex_ext h (ex_lt h h1) ha fun k hk => ?_
  rw [ex_at hm h h1 hk]
  have hk2 := h.at_lt hk
  have e : at' (back o) (at' o k) = k := by rw [back_at h hk2, idx_at h hk]
  conv => lhs; rw [← e]
  rw [ex_at hm hb ha hk2]
theorem ex_or (hm : m ≤ 8) (h : Ord m o) {a k : Nat} (ha : a < 2 ^ m) (hk : k < m) : ex o (a ||| 2 ^ k) = ex o a ||| 2 ^ at' o k := by
  have h1 := or_lt ha hk
  refine ex_ext h (ex_lt h h1) (or_lt (ex_lt h ha) (h.at_lt hk)) fun j hj => ?_
  rw [ex_at hm h h1 hj, or_bit, or_bit, ex_at hm h ha hj]
  by_cases e : k = j
  · subst e; simp
  · have : at' o k ≠ at' o j := fun z => e (h.inj hk hj z)
    simp [e, this]
def Ex (o : List Nat) (L E : List Nat) : Prop := ∀ x, x ∈ E ↔ ∃ b ∈ L, ex o b = x
theorem Ex.say (hm : m ≤ 8) (h : Ord m o) {L E : List Nat} (q : Ex o L E) (hb : ∀ b ∈ L, b < 2 ^ m) {a : Nat} (ha : a < 2 ^ m) : sayP E (ex o a) = sayP L a := by
  rw [Bool.eq_iff_iff, sayP_iff, sayP_iff]
  constructor
  · rintro ⟨x, hx, s⟩
    obtain ⟨b, h1, rfl⟩ := (q x).mp hx
    exact ⟨b, h1, (ex_sub hm h ha (hb b h1)).mp s⟩
  · rintro ⟨b, h1, s⟩
    exact ⟨_, (q _).mpr ⟨b, h1, rfl⟩, (ex_sub hm h ha (hb b h1)).mpr s⟩
theorem Ex.lt (h : Ord m o) {L E : List Nat} (q : Ex o L E) (hb : ∀ b ∈ L, b < 2 ^ m) : ∀ b ∈ E, b < 2 ^ m := fun x hx => by
  obtain ⟨b, h1, rfl⟩ := (q x).mp hx
  exact ex_lt h (hb b h1)
theorem rst_ex (hm : m ≤ 8) (h : Ord m o) {a : Nat} (ha : a < 2 ^ m) : rst m (ex o a) = ex o (rst m a) := by
  have h1 := rst_lt m a
  refine ex_ext h (rst_lt m _) (ex_lt h h1) fun k hk => ?_
  rw [rst_bit (ex_lt h ha), ex_at hm h ha hk, ex_at hm h h1 hk, rst_bit ha]
  simp [hk, h.at_lt hk]
theorem Ex.hit (hm : m ≤ 8) (h : Ord m o) {L E : List Nat} (q : Ex o L E) (hb : ∀ b ∈ L, b < 2 ^ m) {a : Nat} (ha : a < 2 ^ m) : hitP E (ex o a) = hitP L a := by
  rw [hit_say (q.lt h hb) (ex_lt h ha), hit_say hb ha, rst_ex hm h ha, q.say hm h hb (rst_lt m a)]
end
end Fam
namespace Fam
end Fam
namespace Fam
def partP (f : Nat → Bool) (x y s : Nat) : Bool := !s.testBit x && !s.testBit y && (f (s ||| 2 ^ x) && !f (s ||| 2 ^ y))
def part (m : Nat) (f : Nat → Bool) (x y : Nat) : Option Nat := (List.range (2 ^ m)).find? (partP f x y)
def trn (m : Nat) (f : Nat → Bool) (k : Nat) : Nat := ((List.range (2 ^ m)).filter fun s => !f s && f (s ||| 2 ^ k)).length
def trns (m : Nat) (f : Nat → Bool) : List Nat := (List.range m).map (trn m f)
theorem partP_iff {f : Nat → Bool} {x y s : Nat} : partP f x y s = true ↔ s.testBit x = false ∧ s.testBit y = false ∧ f (s ||| 2 ^ x) = true ∧ f (s ||| 2 ^ y) = false := by
  unfold partP
  cases s.testBit x <;> cases s.testBit y <;> cases f (s ||| 2 ^ x) <;> cases f (s ||| 2 ^ y) <;> simp
theorem part_none {m : Nat} {f : Nat → Bool} {x y : Nat} : part m f x y = none ↔ ∀ s, s < 2 ^ m → s.testBit x = false → s.testBit y = false → f (s ||| 2 ^ x) = true → f (s ||| 2 ^ y) = true := by
  unfold part
  rw [List.find?_eq_none]
  constructor
  · intro h s hs h1 h2 h3
    have := h s (List.mem_range.mpr hs)
    rw [partP_iff] at this
    cases e : f (s ||| 2 ^ y) with
    | true => rfl
    | false => exact absurd ⟨h1, h2, h3, e⟩ this
  · intro h s hs hp
    obtain ⟨h1, h2, h3, h4⟩ := partP_iff.mp hp
    rw [h s (List.mem_range.mp hs) h1 h2 h3] at h4
    cases h4
theorem part_some {m : Nat} {f : Nat → Bool} {x y s : Nat} (h : part m f x y = some s) : s < 2 ^ m ∧ s.testBit x = false ∧ s.testBit y = false ∧ f (s ||| 2 ^ x) = true ∧ f (s ||| 2 ^ y) = false :=
  ⟨List.mem_range.mp (List.mem_of_find?_eq_some h), partP_iff.mp (List.find?_some h)⟩
theorem len_sub : ∀ (A B : List Nat), A.Nodup → (∀ x ∈ A, x ∈ B) → A.length ≤ B.length
  | [], _, _, _ => Nat.zero_le _
  | a :: A, B, hn, hs => by
    have hn' := List.nodup_cons.mp hn
    have ha := hs a List.mem_cons_self
    have := len_sub A (B.erase a) hn'.2 fun x hx => (List.mem_erase_of_ne (fun z : x = a => hn'.1 (z ▸ hx))).mpr (hs x (List.mem_cons_of_mem _ hx))
    rw [List.length_erase_of_mem ha] at this
    have := List.length_pos_of_mem ha
    simp only [List.length_cons]
    omega
theorem nodup_map {A : List Nat} {g : Nat → Nat} (hn : A.Nodup) (hi : ∀ a ∈ A, ∀ b ∈ A, g a = g b → a = b) : (A.map g).Nodup := by
  unfold List.Nodup
  rw [List.pairwise_map]
  exact List.Pairwise.imp_of_mem (fun {a b} ha hb hne e => hne (hi a ha b hb e)) hn
theorem cnt_le {n : Nat} {c d : Nat → Bool} (g : Nat → Nat) (h : ∀ s, s < n → c s = true → g s < n ∧ d (g s) = true) (hi : ∀ s t, s < n → t < n → c s = true → c t = true → g s = g t → s = t) : ((List.range n).filter c).length ≤ ((List.range n).filter d).length := by
  have nd : ((List.range n).filter c).Nodup := List.nodup_range.sublist List.filter_sublist
  have := len_sub (((List.range n).filter c).map g) ((List.range n).filter d) (nodup_map nd fun a ha b hb e => by
    rw [List.mem_filter, List.mem_range] at ha hb
    exact hi a b ha.1 hb.1 ha.2 hb.2 e) fun x hx => by
      obtain ⟨s, hs, rfl⟩ := List.mem_map.mp hx
      rw [List.mem_filter, List.mem_range] at hs ⊢
      exact h s hs.1 hs.2
  rwa [List.length_map] at this
theorem cnt_lt {n : Nat} {c d : Nat → Bool} (g : Nat → Nat) (z : Nat) (hz : z < n) (dz : d z = true) (h : ∀ s, s < n → c s = true → g s < n ∧ d (g s) = true ∧ g s ≠ z) (hi : ∀ s t, s < n → t < n → c s = true → c t = true → g s = g t → s = t) : ((List.range n).filter c).length < ((List.range n).filter d).length := by
  have nd : ((List.range n).filter c).Nodup := List.nodup_range.sublist List.filter_sublist
  have nm := nodup_map nd (g := g) fun a ha b hb e => by
    rw [List.mem_filter, List.mem_range] at ha hb
    exact hi a b ha.1 hb.1 ha.2 hb.2 e
  have := len_sub (z :: ((List.range n).filter c).map g) ((List.range n).filter d) (List.nodup_cons.mpr ⟨fun hx => by
    obtain ⟨s, hs, e⟩ := List.mem_map.mp hx
    rw [List.mem_filter, List.mem_range] at hs
    exact (h s hs.1 hs.2).2.2 e, nm⟩) fun x hx => by
      rcases List.mem_cons.mp hx with rfl | hx
      · rw [List.mem_filter, List.mem_range]; exact ⟨hz, dz⟩
      obtain ⟨s, hs, rfl⟩ := List.mem_map.mp hx
      rw [List.mem_filter, List.mem_range] at hs ⊢
      exact ⟨(h s hs.1 hs.2).1, (h s hs.1 hs.2).2.1⟩
  simp only [List.length_cons, List.length_map] at this
  omega
def swp (x y s : Nat) : Nat := if s.testBit x = true then clr s x ||| 2 ^ y else s
theorem swp_bit {x y s : Nat} (hx : s.testBit x = true) (j : Nat) : (swp x y s).testBit j = ((s.testBit j && decide (j ≠ x)) || decide (y = j)) := by
  unfold swp
  rw [if_pos hx, or_bit, clr_bit]
theorem ne_of_bit {s x : Nat} (f : Nat → Bool) (h1 : f s = false) (h2 : f (s ||| 2 ^ x) = true) : s.testBit x = false := by
  cases e : s.testBit x with
  | false => rfl
  | true =>
    have : s ||| 2 ^ x = s := Nat.eq_of_testBit_eq fun i => by
      rw [or_bit]
      by_cases c : x = i
      · subst c; simp [e]
      · simp [c]
    rw [this, h1] at h2
    cases h2
theorem swp_step {m : Nat} {f : Nat → Bool} {x y : Nat} (hxy : x ≠ y) (hx : x < m) (hy : y < m) (h : part m f y x = none) {s : Nat} (hs : s < 2 ^ m) (h1 : f s = false) (h2 : f (s ||| 2 ^ y) = true) : swp x y s < 2 ^ m ∧ f (swp x y s) = false ∧ f (swp x y s ||| 2 ^ x) = true := by
  have by' := ne_of_bit f h1 h2
  cases bx : s.testBit x with
  | false =>
    have e : swp x y s = s := by unfold swp; rw [if_neg (by rw [bx]; decide)]
    rw [e]
    exact ⟨hs, h1, part_none.mp h s hs by' bx h2⟩
  | true =>
    have c1 : (clr s x).testBit x = false := by rw [clr_bit]; simp
    have c2 : (clr s x).testBit y = false := by rw [clr_bit, by']; rfl
    have cl : clr s x < 2 ^ m := Nat.lt_of_le_of_lt (clr_le s x) hs
    have e : swp x y s = clr s x ||| 2 ^ y := by unfold swp; rw [if_pos bx]
    have e2 : clr s x ||| 2 ^ x = s := Nat.eq_of_testBit_eq fun i => by
      rw [or_bit, clr_bit]
      by_cases c : x = i
      · subst c; simp [bx]
      · simp [c, Ne.symm c]
    have e3 : (clr s x ||| 2 ^ y) ||| 2 ^ x = s ||| 2 ^ y := Nat.eq_of_testBit_eq fun i => by
      rw [or_bit, or_bit, clr_bit, or_bit]
      by_cases c : x = i
      · subst c; simp [bx]
      · simp [c, Ne.symm c]
    rw [e]
    refine ⟨Nat.or_lt_two_pow cl (Nat.pow_lt_pow_right (by decide) hy), ?_, by rw [e3]; exact h2⟩
    cases z : f (clr s x ||| 2 ^ y) with
    | false => rfl
    | true =>
      have := part_none.mp h (clr s x) cl c2 c1 z
      rw [e2, h1] at this
      cases this
theorem swp_inj {x y s t : Nat} (hxy : x ≠ y) (hs : s.testBit y = false) (ht : t.testBit y = false) (e : swp x y s = swp x y t) : s = t := by
  have fx : ∀ u : Nat, u.testBit y = false → (swp x y u).testBit y = u.testBit x := fun u hu => by
    cases bx : u.testBit x with
    | true => rw [swp_bit bx]; simp
    | false => unfold swp; rw [if_neg (by rw [bx]; decide), hu]
  have ex : s.testBit x = t.testBit x := by rw [← fx s hs, ← fx t ht, e]
  refine Nat.eq_of_testBit_eq fun j => ?_
  by_cases c : j = x
  · rw [c]; exact ex
  by_cases d : j = y
  · rw [d, hs, ht]
  have fj : ∀ u : Nat, (swp x y u).testBit j = u.testBit j := fun u => by
    cases bx : u.testBit x with
    | true => rw [swp_bit bx]; simp [c, Ne.symm d]
    | false => unfold swp; rw [if_neg (by rw [bx]; decide)]
  rw [← fj s, ← fj t, e]
theorem trn_iff {f : Nat → Bool} {s k : Nat} : (!f s && f (s ||| 2 ^ k)) = true ↔ f s = false ∧ f (s ||| 2 ^ k) = true := by
  cases f s <;> simp
theorem trn_le {m : Nat} {f : Nat → Bool} {x y : Nat} (hxy : x ≠ y) (hx : x < m) (hy : y < m) (h : part m f y x = none) : trn m f y ≤ trn m f x := by
  refine cnt_le (swp x y) (fun s hs hc => ?_) fun s t hs ht c1 c2 e => ?_
  · obtain ⟨h1, h2⟩ := trn_iff.mp hc
    obtain ⟨g1, g2, g3⟩ := swp_step hxy hx hy h hs h1 h2
    exact ⟨g1, trn_iff.mpr ⟨g2, g3⟩⟩
  · obtain ⟨h1, h2⟩ := trn_iff.mp c1
    obtain ⟨g1, g2⟩ := trn_iff.mp c2
    exact swp_inj hxy (ne_of_bit f h1 h2) (ne_of_bit f g1 g2) e
theorem trn_lt {m : Nat} {f : Nat → Bool} {x y z : Nat} (u : Up m f) (hxy : x ≠ y) (hx : x < m) (hy : y < m) (h : part m f y x = none) (hz : part m f x y = some z) : trn m f y < trn m f x := by
  obtain ⟨z0, zx, zy, z1, z2⟩ := part_some hz
  have pz : z ||| 2 ^ y < 2 ^ m := Nat.or_lt_two_pow z0 (Nat.pow_lt_pow_right (by decide) hy)
  refine cnt_lt (swp x y) (z ||| 2 ^ y) pz (trn_iff.mpr ⟨z2, ?_⟩) (fun s hs hc => ?_) fun s t hs ht c1 c2 e => ?_
  · refine u _ (z ||| 2 ^ x) (Nat.or_lt_two_pow pz (Nat.pow_lt_pow_right (by decide) hx)) (sub_iff.mpr fun k hk => ?_) z1
    rw [or_bit] at hk
    rw [or_bit, or_bit]
    cases e : z.testBit k
    · rw [e] at hk; simpa using .inr (by simpa using hk)
    · simp
  · obtain ⟨h1, h2⟩ := trn_iff.mp hc
    obtain ⟨g1, g2, g3⟩ := swp_step hxy hx hy h hs h1 h2
    refine ⟨g1, trn_iff.mpr ⟨g2, g3⟩, fun e => ?_⟩
    have by' := ne_of_bit f h1 h2
    have bx : s.testBit x = true := by
      cases bx : s.testBit x with
      | true => rfl
      | false =>
        have e2 : swp x y s = s := by unfold swp; rw [if_neg (by rw [bx]; decide)]
        rw [e2] at e
        have := congrArg (fun w => Nat.testBit w y) e
        simp only [by', or_bit, decide_true, Bool.or_true] at this
        cases this
    have es : s = z ||| 2 ^ x := Nat.eq_of_testBit_eq fun j => by
      have := congrArg (fun w => Nat.testBit w j) e
      simp only [swp_bit bx, or_bit] at this
      rw [or_bit]
      by_cases c : x = j
      · subst c; simp [bx]
      by_cases d : y = j
      · subst d; simp [by', zy, c]
      simpa [c, d, Ne.symm c] using this
    rw [es, z1] at h1
    cases h1
  · obtain ⟨h1, h2⟩ := trn_iff.mp c1
    obtain ⟨g1, g2⟩ := trn_iff.mp c2
    exact swp_inj hxy (ne_of_bit f h1 h2) (ne_of_bit f g1 g2) e
theorem part_turns {m : Nat} {f : Nat → Bool} {x y : Nat} (u : Up m f) (hxy : x ≠ y) (hx : x < m) (hy : y < m) (h : part m f x y = none ∨ part m f y x = none) : (part m f x y = none ↔ trn m f x ≤ trn m f y) := by
  constructor
  · intro z
    exact trn_le (Ne.symm hxy) hy hx z
  · intro z
    cases e : part m f x y with
    | none => rfl
    | some s =>
      rcases h with h | h
      · rw [e] at h; cases h
      · have := trn_lt u hxy hx hy h e
        omega
theorem trn_congr {m : Nat} {f g : Nat → Bool} {k : Nat} (hk : k < m) (h : ∀ s, s < 2 ^ m → f s = g s) : trn m f k = trn m g k := by
  unfold trn
  congr 1
  refine List.filter_congr fun s hs => ?_
  have hs := List.mem_range.mp hs
  rw [h s hs, h (s ||| 2 ^ k) (Nat.or_lt_two_pow hs (Nat.pow_lt_pow_right (by decide) hk))]
end Fam
namespace Fam
section
variable {m : Nat} {o : List Nat} {f g : Nat → Bool}
theorem trn_ex_le (hm : m ≤ 8) (h : Ord m o) (e : ∀ a, a < 2 ^ m → g (ex o a) = f a) {k : Nat} (hk : k < m) : trn m f k ≤ trn m g (at' o k) := by
  refine cnt_le (ex o) (fun s hs hc => ?_) fun s t hs ht _ _ z => ex_inj hm h hs ht z
  obtain ⟨h1, h2⟩ := trn_iff.mp hc
  refine ⟨ex_lt h hs, trn_iff.mpr ⟨by rw [e s hs]; exact h1, ?_⟩⟩
  rw [← ex_or hm h hs hk, e _ (or_lt hs hk)]
  exact h2
theorem back_eq (hm : m ≤ 8) (h : Ord m o) (e : ∀ a, a < 2 ^ m → g (ex o a) = f a) : ∀ a, a < 2 ^ m → f (ex (back o) a) = g a := fun a ha => by
  rw [← e _ (ex_lt (back_ord h) ha), ex_back hm h ha]
theorem trn_ex (hm : m ≤ 8) (h : Ord m o) (e : ∀ a, a < 2 ^ m → g (ex o a) = f a) {k : Nat} (hk : k < m) : trn m g (at' o k) = trn m f k := by
  refine Nat.le_antisymm ?_ (trn_ex_le hm h e hk)
  have := trn_ex_le hm (back_ord h) (back_eq hm h e) (h.at_lt hk)
  rwa [back_at h (h.at_lt hk), idx_at h hk] at this
theorem part_ex_none (hm : m ≤ 8) (h : Ord m o) (e : ∀ a, a < 2 ^ m → g (ex o a) = f a) {x y : Nat} (hx : x < m) (hy : y < m) (z : part m g (at' o x) (at' o y) = none) : part m f x y = none := by
  rw [part_none] at z ⊢
  intro s hs b1 b2 h1
  have := z (ex o s) (ex_lt h hs) (by rw [ex_at hm h hs hx]; exact b1) (by rw [ex_at hm h hs hy]; exact b2) (by rw [← ex_or hm h hs hx, e _ (or_lt hs hx)]; exact h1)
  rwa [← ex_or hm h hs hy, e _ (or_lt hs hy)] at this
end
end Fam
namespace Fam
def wt (ws : List Nat) (s : Nat) : Nat := ((nms 8 s).map fun k => ws.getD k 0).sum
theorem sum_filter (c : Nat → Bool) (g : Nat → Nat) : ∀ L : List Nat, ((L.filter c).map g).sum = (L.map fun k => if c k = true then g k else 0).sum
  | [] => rfl
  | a :: L => by
    rw [List.filter_cons]
    cases h : c a <;> simp [h, sum_filter c g L]
theorem wt_eq (ws : List Nat) (s : Nat) : wt ws s = ((List.range 8).map fun k => if s.testBit k = true then ws.getD k 0 else 0).sum := sum_filter _ _ _
theorem sum_le {g h : Nat → Nat} : ∀ {L : List Nat}, (∀ j ∈ L, g j ≤ h j) → (L.map g).sum ≤ (L.map h).sum
  | [], _ => Nat.le_refl _
  | a :: L, H => by
    have := sum_le (L := L) fun j hj => H j (List.mem_cons_of_mem _ hj)
    have := H a List.mem_cons_self
    simp only [List.map_cons, List.sum_cons]
    omega
theorem sum_one {g h : Nat → Nat} {k : Nat} (hk : h k = 0) : ∀ {L : List Nat}, L.Nodup → k ∈ L → (∀ j ∈ L, j ≠ k → h j = g j) → (L.map h).sum + g k = (L.map g).sum
  | [], _, hm, _ => by cases hm
  | a :: L, hn, hm, H => by
    have hn' := List.nodup_cons.mp hn
    simp only [List.map_cons, List.sum_cons]
    by_cases c : a = k
    · subst c
      have e : L.map h = L.map g := List.map_congr_left fun j hj => H j (List.mem_cons_of_mem _ hj) fun z => hn'.1 (z ▸ hj)
      rw [e, hk]
      omega
    · have := sum_one hk hn'.2 ((List.mem_cons.mp hm).resolve_left fun z => c z.symm) fun j hj hne => H j (List.mem_cons_of_mem _ hj) hne
      have := H a List.mem_cons_self c
      omega
theorem wt_sub {ws : List Nat} {a b : Nat} (h : sub b a) : wt ws b ≤ wt ws a := by
  rw [wt_eq, wt_eq]
  refine sum_le fun j _ => ?_
  by_cases c : b.testBit j = true
  · rw [if_pos c, if_pos (sub_iff.mp h j c)]
    exact Nat.le_refl _
  · rw [if_neg c]
    exact Nat.zero_le _
theorem wt_less {ws : List Nat} {a k : Nat} (hk : k < 8) (h : a.testBit k = true) : wt ws (less a k) + ws.getD k 0 = wt ws a := by
  rw [wt_eq, wt_eq]
  have := sum_one (g := fun j => if a.testBit j = true then ws.getD j 0 else 0) (h := fun j => if (less a k).testBit j = true then ws.getD j 0 else 0) (k := k) (by rw [less_bit h]; simp) List.nodup_range (List.mem_range.mpr hk) fun j _ hne => by
    rw [less_bit h]
    simp [hne]
  rw [if_pos h] at this
  exact this
end Fam
namespace Fam
theorem wt_more {ws : List Nat} {a k : Nat} (hk : k < 8) (h : a.testBit k = false) : wt ws (a ||| 2 ^ k) = wt ws a + ws.getD k 0 := by
  have h1 : (a ||| 2 ^ k).testBit k = true := by rw [or_bit]; simp
  have := wt_less (ws := ws) hk h1
  have e : less (a ||| 2 ^ k) k = a := Nat.eq_of_testBit_eq fun j => by
    rw [less_bit h1, or_bit]
    by_cases c : k = j
    · subst c; simp [h]
    · simp [c, Ne.symm c]
  rw [e] at this
  omega
end Fam
namespace Fam
end Fam
namespace Fam
end Fam
namespace Fam
def tb (n : Nat) (f : Nat → Bool) : List Bool := (List.range n).map f
def bLe (A B : List Bool) : Bool := (A.zip B).all fun p => !p.1 || p.2
def reg2 (m : Nat) (A B : List Bool) : Bool := bLe A B && match m with
  | 0 => true
  | k + 1 => bLe (B.take (2 ^ k)) (A.drop (2 ^ k))
def regs : Nat → List (List Bool)
  | 0 => [[false], [true]]
  | m + 1 => (regs m).flatMap fun A => ((regs m).filter (reg2 m A)).map (A ++ ·)
def gdc (m : Nat) (T : List Bool) (c : List Nat × Nat) : Bool :=
  ((List.range m).all fun i => decide (c.1.getD i 0 ≤ 5)) && (((List.range m).all fun i => (List.range m).all fun j => decide (trn m (fun s => T.getD s false) j < trn m (fun s => T.getD s false) i) == decide (c.1.getD j 0 < c.1.getD i 0)) &&
    (List.range (2 ^ m)).all fun s => T.getD s false == decide (c.2 ≤ wt c.1 s))
def chk (m : Nat) : List (List Bool) → List (List Nat × Nat) → Bool
  | [], _ => true
  | _ :: _, [] => false
  | T :: Ts, c :: cs => gdc m T c && chk m Ts cs
theorem chk_all {m : Nat} : ∀ {Ts : List (List Bool)} {cs : List (List Nat × Nat)}, chk m Ts cs = true → ∀ T ∈ Ts, ∃ c, gdc m T c = true
  | [], _, _, T, h => by cases h
  | _ :: _, [], h, _, _ => by cases h
  | U :: Ts, c :: cs, h, T, hT => by
    have h' := Bool.and_eq_true_iff.mp (show (gdc m U c && chk m Ts cs) = true from h)
    rcases List.mem_cons.mp hT with rfl | z
    · exact ⟨c, h'.1⟩
    · exact chk_all h'.2 T z
def cert0 : List (List Nat × Nat) := [([], 1), ([], 0)]
def cert1 : List (List Nat × Nat) := [([0], 1), ([1], 1), ([0], 0)]
def cert2 : List (List Nat × Nat) := [([0, 0], 1), ([1, 1], 2), ([1, 0], 1), ([1, 1], 1), ([0, 0], 0)]
def cert3 : List (List Nat × Nat) := [([0, 0, 0], 1), ([1, 1, 1], 3), ([1, 1, 0], 2), ([2, 1, 1], 3), ([1, 1, 1], 2), ([1, 0, 0], 1), ([2, 1, 1], 2), ([1, 1, 0], 1), ([1, 1, 1], 1), ([0, 0, 0], 0)]
def cert4 : List (List Nat × Nat) := [([0, 0, 0, 0], 1), ([1, 1, 1, 1], 4), ([1, 1, 1, 0], 3), ([2, 2, 1, 1], 5), ([2, 1, 1, 1], 4), ([1, 1, 1, 1], 3), ([1, 1, 0, 0], 2), ([3, 2, 1, 1], 5), ([2, 2, 1, 1], 4), ([2, 1, 1, 0], 3), ([3, 2, 2, 1], 5), ([3, 1, 1, 1], 4), ([2, 1, 1, 1], 3), ([1, 1, 1, 0], 2), ([3, 2, 2, 1], 4), ([2, 2, 1, 1], 3), ([1, 1, 1, 1], 2), ([1, 0, 0, 0], 1), ([3, 1, 1, 1], 3), ([2, 1, 1, 0], 2), ([3, 2, 1, 1], 3), ([2, 1, 1, 1], 2), ([1, 1, 0, 0], 1), ([2, 2, 1, 1], 2), ([1, 1, 1, 0], 1), ([1, 1, 1, 1], 1), ([0, 0, 0, 0], 0)]
def cert5 : List (List Nat × Nat) := [([0, 0, 0, 0, 0], 1), ([1, 1, 1, 1, 1], 5), ([1, 1, 1, 1, 0], 4), ([2, 2, 2, 1, 1], 7), ([2, 2, 1, 1, 1], 6), ([2, 1, 1, 1, 1], 5), ([1, 1, 1, 1, 1], 4), ([1, 1, 1, 0, 0], 3), ([3, 3, 2, 1, 1], 8), ([3, 2, 2, 1, 1], 7), ([2, 2, 2, 1, 1], 6), ([2, 2, 1, 1, 0], 5), ([4, 3, 2, 2, 1], 9), ([3, 3, 2, 2, 1], 8), ([3, 3, 1, 1, 1], 7), ([3, 2, 1, 1, 1], 6), ([2, 2, 1, 1, 1], 5), ([2, 1, 1, 1, 0], 4), ([3, 2, 2, 2, 1], 7), ([5, 3, 2, 2, 1], 9), ([4, 3, 2, 2, 1], 8), ([4, 2, 2, 1, 1], 7), ([3, 2, 2, 1, 1], 6), ([3, 1, 1, 1, 1], 5), ([2, 1, 1, 1, 1], 4), ([1, 1, 1, 1, 0], 3), ([3, 3, 2, 2, 1], 7), ([4, 3, 3, 2, 1], 8), ([3, 2, 2, 2, 1], 6), ([2, 2, 2, 1, 1], 5), ([4, 3, 3, 2, 2], 8), ([3, 3, 2, 2, 2], 7), ([1, 1, 1, 1, 1], 3), ([1, 1, 0, 0, 0], 2), ([4, 3, 1, 1, 1], 7), ([3, 3, 1, 1, 1], 6), ([3, 2, 1, 1, 0], 5), ([5, 4, 2, 2, 1], 9), ([5, 3, 2, 1, 1], 8), ([4, 3, 2, 1, 1], 7), ([4, 2, 1, 1, 1], 6), ([3, 2, 1, 1, 1], 5), ([2, 2, 1, 1, 0], 4), ([5, 4, 3, 2, 1], 9), ([4, 3, 2, 2, 1], 7), ([3, 3, 2, 1, 1], 6), ([5, 4, 3, 2, 2], 9), ([2, 2, 1, 1, 1], 4), ([3, 3, 2, 2, 2], 6), ([2, 1, 1, 0, 0], 3), ([5, 3, 3, 1, 1], 8), ([5, 2, 2, 1, 1], 7), ([4, 2, 2, 1, 1], 6), ([3, 2, 2, 1, 0], 5), ([5, 3, 3, 2, 1], 8), ([4, 3, 3, 1, 1], 7), ([3, 2, 2, 1, 1], 5), ([5, 4, 3, 2, 2], 8), ([4, 3, 3, 2, 2], 7), ([3, 1, 1, 1, 0], 4), ([5, 2, 2, 2, 1], 7), ([4, 1, 1, 1, 1], 5), ([3, 1, 1, 1, 1], 4), ([2, 1, 1, 1, 0], 3), ([5, 3, 3, 2, 1], 7), ([4, 3, 2, 2, 1], 6), ([3, 2, 2, 2, 1], 5), ([5, 2, 2, 2, 1], 6), ([4, 2, 2, 1, 1], 5), ([3, 2, 1, 1, 1], 4), ([2, 1, 1, 1, 1], 3), ([1, 1, 1, 0, 0], 2), ([4, 3, 3, 1, 1], 6), ([3, 3, 2, 1, 1], 5), ([2, 2, 2, 1, 1], 4), ([3, 2, 2, 1, 0], 4), ([5, 4, 3, 2, 1], 7), ([4, 3, 3, 2, 1], 6), ([5, 3, 3, 1, 1], 6), ([4, 3, 2, 1, 1], 5), ([3, 2, 2, 1, 1], 4), ([2, 2, 1, 1, 0], 3), ([3, 3, 2, 2, 1], 5), ([5, 4, 2, 2, 1], 6), ([4, 3, 2, 2, 1], 5), ([3, 3, 1, 1, 1], 4), ([2, 2, 1, 1, 1], 3), ([1, 1, 1, 1, 0], 2), ([3, 2, 2, 2, 1], 4), ([3, 3, 2, 2, 1], 4), ([2, 2, 2, 1, 1], 3), ([1, 1, 1, 1, 1], 2), ([1, 0, 0, 0, 0], 1), ([4, 1, 1, 1, 1], 4), ([3, 1, 1, 1, 0], 3), ([5, 2, 2, 1, 1], 5), ([4, 2, 1, 1, 1], 4), ([3, 1, 1, 1, 1], 3), ([2, 1, 1, 0, 0], 2), ([5, 3, 2, 1, 1], 5), ([4, 2, 2, 1, 1], 4), ([3, 2, 1, 1, 0], 3), ([5, 3, 2, 2, 1], 5), ([4, 3, 1, 1, 1], 4), ([3, 2, 1, 1, 1], 3), ([2, 1, 1, 1, 0], 2), ([4, 3, 2, 2, 1], 4), ([3, 2, 2, 1, 1], 3), ([2, 1, 1, 1, 1], 2), ([1, 1, 0, 0, 0], 1), ([3, 3, 1, 1, 1], 3), ([2, 2, 1, 1, 0], 2), ([3, 3, 2, 1, 1], 3), ([2, 2, 1, 1, 1], 2), ([1, 1, 1, 0, 0], 1), ([2, 2, 2, 1, 1], 2), ([1, 1, 1, 1, 0], 1), ([1, 1, 1, 1, 1], 1), ([0, 0, 0, 0, 0], 0)]
theorem chk0 : chk 0 (regs 0) cert0 = true := by decide +kernel
theorem chk1 : chk 1 (regs 1) cert1 = true := by decide +kernel
theorem chk2 : chk 2 (regs 2) cert2 = true := by decide +kernel
theorem chk3 : chk 3 (regs 3) cert3 = true := by decide +kernel
theorem chk4 : chk 4 (regs 4) cert4 = true := by decide +kernel
theorem chk5 : chk 5 (regs 5) cert5 = true := by decide +kernel
theorem chk_five {m : Nat} (hm : m ≤ 5) : ∀ T ∈ regs m, ∃ c, gdc m T c = true := by
  have : m = 0 ∨ m = 1 ∨ m = 2 ∨ m = 3 ∨ m = 4 ∨ m = 5 := by omega
  rcases this with rfl | rfl | rfl | rfl | rfl | rfl
  · exact chk_all chk0
  · exact chk_all chk1
  · exact chk_all chk2
  · exact chk_all chk3
  · exact chk_all chk4
  · exact chk_all chk5
theorem tb_len (n : Nat) (f : Nat → Bool) : (tb n f).length = n := by simp [tb]
theorem tb_congr {n : Nat} {f g : Nat → Bool} (h : ∀ s, s < n → f s = g s) : tb n f = tb n g := List.map_congr_left fun s hs => h s (List.mem_range.mp hs)
theorem tb_add (a b : Nat) (f : Nat → Bool) : tb (a + b) f = tb a f ++ tb b fun s => f (a + s) := by
  unfold tb
  rw [List.range_add, List.map_append, List.map_map]
  rfl
theorem pow_or {m s : Nat} (hs : s < 2 ^ m) : 2 ^ m + s = s ||| 2 ^ m := by
  have := Nat.two_pow_add_eq_or_of_lt hs 1
  rw [Nat.mul_one] at this
  rw [this, Nat.or_comm]
theorem tb_two (m : Nat) (f : Nat → Bool) : tb (2 ^ (m + 1)) f = tb (2 ^ m) f ++ tb (2 ^ m) fun s => f (s ||| 2 ^ m) := by
  rw [show 2 ^ (m + 1) = 2 ^ m + 2 ^ m by omega, tb_add]
  congr 1
  exact tb_congr fun s hs => by rw [pow_or hs]
theorem ble_tb {n : Nat} {f g : Nat → Bool} (h : ∀ s, s < n → f s = true → g s = true) : bLe (tb n f) (tb n g) = true := by
  unfold bLe tb
  rw [List.zip_map', List.all_map, List.all_eq_true]
  intro s hs
  have := h s (List.mem_range.mp hs)
  show (!f s || g s) = true
  cases e : f s
  · rfl
  · rw [this e]; rfl
def Reg (m : Nat) (f : Nat → Bool) : Prop := ∀ i j, i < j → j < m → part m f j i = none
theorem or_rc (a b c : Nat) : a ||| b ||| c = a ||| c ||| b := by rw [Nat.or_assoc, Nat.or_comm b, ← Nat.or_assoc]
theorem low_no {m s k : Nat} (hs : s < 2 ^ m) (hk : m ≤ k) : s.testBit k = false := Nat.testBit_lt_two_pow (Nat.lt_of_lt_of_le hs (Nat.pow_le_pow_right (by decide) hk))
theorem lt_succ_pow {m s : Nat} (hs : s < 2 ^ m) : s < 2 ^ (m + 1) := Nat.lt_of_lt_of_le hs (Nat.pow_le_pow_right (by decide) (Nat.le_succ m))
theorem tb_regs : ∀ {m : Nat} {f : Nat → Bool}, Up m f → Reg m f → tb (2 ^ m) f ∈ regs m
  | 0, f, _, _ => by
    show [f 0] ∈ [[false], [true]]
    cases f 0 <;> simp
  | m + 1, f, u, r => by
    have hi : ∀ s, s < 2 ^ m → s ||| 2 ^ m < 2 ^ (m + 1) := fun s hs => Nat.or_lt_two_pow (lt_succ_pow hs) (Nat.pow_lt_pow_right (by decide) (Nat.lt_succ_self m))
    have u0 : Up m f := fun a b ha hs hb => u a b (lt_succ_pow ha) hs hb
    have r0 : Reg m f := fun i j h1 h2 => by
      have := part_none.mp (r i j h1 (by omega))
      exact part_none.mpr fun s hs => this s (lt_succ_pow hs)
    have u1 : Up m fun s => f (s ||| 2 ^ m) := fun a b ha hs hb => u _ (b ||| 2 ^ m) (hi a ha) (sub_iff.mpr fun k hk => by
      rw [or_bit] at hk ⊢
      rcases (Bool.or_eq_true _ _).mp hk with z | z
      · rw [sub_iff.mp hs k z]; rfl
      · rw [z]; simp) hb
    have r1 : Reg m fun s => f (s ||| 2 ^ m) := fun i j h1 h2 => by
      have := part_none.mp (r i j h1 (by omega))
      refine part_none.mpr fun s hs b1 b2 h3 => ?_
      have g1 : (s ||| 2 ^ m).testBit j = false := by rw [or_bit, b1]; simp; omega
      have g2 : (s ||| 2 ^ m).testBit i = false := by rw [or_bit, b2]; simp; omega
      have := this (s ||| 2 ^ m) (hi s hs) g1 g2
      rw [or_rc s (2 ^ m), or_rc s (2 ^ m)] at this
      exact this h3
    rw [tb_two]
    refine List.mem_flatMap.mpr ⟨_, tb_regs u0 r0, List.mem_map.mpr ⟨_, List.mem_filter.mpr ⟨tb_regs u1 r1, ?_⟩, rfl⟩⟩
    refine Bool.and_eq_true_iff.mpr ⟨ble_tb fun s hs h => u _ s (hi s hs) (sub_iff.mpr fun k hk => by rw [or_bit, hk]; rfl) h, ?_⟩
    cases m with
    | zero => rfl
    | succ k =>
      show bLe ((tb (2 ^ (k + 1)) fun s => f (s ||| 2 ^ (k + 1))).take (2 ^ k)) ((tb (2 ^ (k + 1)) f).drop (2 ^ k)) = true
      rw [tb_two, tb_two, List.take_left' (tb_len _ _), List.drop_left' (tb_len _ _)]
      refine ble_tb fun s hs h => ?_
      exact part_none.mp (r k (k + 1) (Nat.lt_succ_self k) (by omega)) s (lt_succ_pow (lt_succ_pow hs)) (low_no hs (by omega)) (low_no hs (Nat.le_refl _)) h
theorem tb_get {n s : Nat} {f : Nat → Bool} (hs : s < n) : (tb n f).getD s false = f s := by
  unfold tb
  rw [List.getD_eq_getElem?_getD, List.getElem?_map, List.getElem?_range hs]
  rfl
theorem reg_wt {m : Nat} {f : Nat → Bool} (hm : m ≤ 5) (u : Up m f) (r : Reg m f) : ∃ (W : List Nat) (b : Nat), (∀ i, i < m → W.getD i 0 ≤ 5) ∧ (∀ i j, i < m → j < m → (trn m f j < trn m f i ↔ W.getD j 0 < W.getD i 0)) ∧ ∀ s, s < 2 ^ m → f s = decide (b ≤ wt W s) := by
  obtain ⟨⟨W, b⟩, h⟩ := chk_five hm _ (tb_regs u r)
  have h' := Bool.and_eq_true_iff.mp h
  have h'' := Bool.and_eq_true_iff.mp h'.2
  have et : ∀ k, k < m → trn m (fun s => (tb (2 ^ m) f).getD s false) k = trn m f k := fun k hk => trn_congr hk fun s hs => tb_get hs
  refine ⟨W, b, fun i hi => ?_, fun i j hi hj => ?_, fun s hs => ?_⟩
  · exact of_decide_eq_true (List.all_eq_true.mp h'.1 i (List.mem_range.mpr hi))
  · have := List.all_eq_true.mp (List.all_eq_true.mp h''.1 i (List.mem_range.mpr hi)) j (List.mem_range.mpr hj)
    have e := eq_of_beq this
    rw [et i hi, et j hj, Bool.eq_iff_iff, decide_eq_true_eq, decide_eq_true_eq] at e
    exact e
  · have := eq_of_beq (List.all_eq_true.mp h''.2 s (List.mem_range.mpr hs))
    rw [tb_get hs] at this
    exact this
theorem wt_ex {m : Nat} {o W N : List Nat} (hm : m ≤ 8) (h : Ord m o) (e : ∀ k, k < m → N.getD (at' o k) 0 = W.getD k 0) : ∀ {a : Nat}, a < 2 ^ m → wt N (ex o a) = wt W a := by
  have key : ∀ k, k ≤ m → ∀ a, a < 2 ^ k → wt N (ex o a) = wt W a := fun k => by
    induction k with
    | zero =>
      intro _ a ha
      obtain rfl : a = 0 := by simpa using ha
      have e0 : nms 8 0 = [] := by decide
      have e1 : ex o 0 = 0 := by unfold ex; rw [e0]; rfl
      rw [e1]; unfold wt; rw [e0]; rfl
    | succ k ih =>
      intro hk a ha
      by_cases c : a < 2 ^ k
      · exact ih (by omega) a c
      · have hp : 2 ^ (k + 1) = 2 ^ k + 2 ^ k := by omega
        have hb : a - 2 ^ k < 2 ^ k := by omega
        have ea : a = (a - 2 ^ k) ||| 2 ^ k := by rw [← pow_or hb]; omega
        have lb : a - 2 ^ k < 2 ^ m := Nat.lt_of_lt_of_le hb (Nat.pow_le_pow_right (by decide) (by omega))
        have km : k < m := by omega
        have n1 : (a - 2 ^ k).testBit k = false := low_no hb (Nat.le_refl _)
        generalize a - 2 ^ k = b at *
        rw [ea, ex_or hm h lb km, wt_more (by have := h.at_lt km; omega) (by rw [ex_at hm h lb km]; exact n1), wt_more (by omega) n1, ih (by omega) b hb, e k km]
  exact fun {a} ha => key m (Nat.le_refl _) a ha
end Fam
namespace L2
open PySem PySem.Spec PyProof.Rows
inductive Deq (K : PySem.W.Frag) (H : Hp) : Nat → V → V → Bool → Prop where
  | flat {n : Nat} {x y : V} : flatV x = true → flatV y = true → Deq K H n x y (eqV x y)
  | lst {n : Nat} {a b : Addr} {xs ys : List V} {e : Nat → Bool} : a ≠ b → SqL K H a xs → SqL K H b ys → xs.length = ys.length → (∀ (j : Nat) (x y : V), xs[j]? = some x → ys[j]? = some y → Deq K H n x y (e j)) → Deq K H (n + 1) (.ref a) (.ref b) ((List.range xs.length).all e)
  | lstN {n : Nat} {a b : Addr} {xs ys : List V} : a ≠ b → SqL K H a xs → SqL K H b ys → xs.length ≠ ys.length → Deq K H (n + 1) (.ref a) (.ref b) false
  | tup {n : Nat} {a b : Addr} {xs ys : List V} {e : Nat → Bool} : a ≠ b → SqT K H a xs → SqT K H b ys → (∀ (j : Nat) (x y : V), xs[j]? = some x → ys[j]? = some y → Deq K H n x y (e j)) → Deq K H (n + 1) (.ref a) (.ref b) ((List.range (min xs.length ys.length)).all e && xs.length == ys.length)
section
variable {X : Cx} {pins : List (Addr × Obj)} {σ : St} {H : Hp} {s : Shared} {K : PySem.W.Frag}
end
end L2
namespace L2
open PySem PySem.Spec PyProof.Rows
abbrev bV (t : List Bool) : List V := t.map V.bl
def tab (n : Nat) (f : Nat → Bool) : List Bool := (List.range n).map f
theorem bV_len (t : List Bool) : (bV t).length = t.length := by simp
theorem tab_get {n k : Nat} {f : Nat → Bool} (h : k < n) : (tab n f)[k]? = some (f k) := by
  unfold tab
  rw [List.getElem?_map, List.getElem?_range h]
  rfl
theorem atI_b {t : List Bool} {i : Nat} {b : Bool} (h : t[i]? = some b) : atI (bV t) (i : Int) = some (.bl b) := by
  have hl := (List.getElem?_eq_some_iff.mp h).1
  unfold atI ixN
  rw [if_pos (by omega), if_pos (by rw [bV_len]; omega)]
  show (bV t)[(i : Int).toNat]? = _
  rw [Int.toNat_natCast, List.getElem?_map, h]
  rfl
theorem atI_tab {n k : Nat} {f : Nat → Bool} (h : k < n) : atI (bV (tab n f)) (k : Int) = some (.bl (f k)) := atI_b (tab_get h)
theorem map_tab {n : Nat} {f : Nat → Bool} : ((List.range n).filter fun _ => true).map (fun k => V.bl (f k)) = bV (tab n f) := by
  rw [List.filter_eq_self.mpr fun _ _ => rfl, tab, bV, List.map_map]
  rfl
theorem shr_zero {a k : Nat} : Builtin.bitAnd ((a : Int) / 2 ^ ((k : Nat) : Int).toNat) 1 = 0 ↔ (!a.testBit k) = true := by
  have := shr_nil a k
  rw [← this, decide_eq_true_eq]
end L2
namespace L2
open PySem PySem.Spec PyProof.Rows
section
variable {X : Cx} {es : List Expr} {t : TA} {te : TE}
inductive CI : List Expr → List Int → Prop
  | nil : CI [] []
  | cons {i : Int} {j : Nat} {p : Pos} {es : List Expr} {ns : List Int} (h : CI es ns) : CI (.Constant (.int i) j p :: es) (i :: ns)
def tInts (ns : List Int) : TA := fun _ H Q => Q (ns.map V.int) H
end
end L2
namespace L2
open PySem PySem.Spec PyProof.Rows
section
variable {X : Cx} {K : PySem.W.Frag}
end
end L2
namespace L2
open PySem PySem.Spec PyProof.Rows
inductive DI : List Expr → TA → Prop
  | nil : DI [] tNil
  | c {v : Const} {j : Nat} {p : Pos} {es : List Expr} {te : TE} {t : TA} (h : ∀ X, PE X (.Constant v j p) te) (r : DI es t) : DI (.Constant v j p :: es) (tCons te t)
  | t {xs : List Expr} {b p} {es : List Expr} {te : TE} {t : TA} (h : ∀ X, PE X (.Tuple xs b p) te) (r : DI es t) : DI (.Tuple xs b p :: es) (tCons te t)
  | d {ks vs p} {es : List Expr} {te : TE} {t : TA} (h : ∀ X, PE X (.Dict ks vs p) te) (r : DI es t) : DI (.Dict ks vs p :: es) (tCons te t)
  | l {xs : List Expr} {p} {es : List Expr} {te : TE} {t : TA} (h : ∀ X, PE X (.List xs p) te) (r : DI es t) : DI (.List xs p :: es) (tCons te t)
end L2
namespace L2
open PySem PySem.Spec PyProof.Rows STb
section
variable {prog : Program} {w : World} {A : Around} {E : Value → Shared → Prop} {s : Shared}
end
section
variable {X : Cx}
end
end L2
namespace L2
open PySem PySem.Spec PyProof.Rows
section
variable {X : Cx} {K : PySem.W.Frag} {g : TG} {σ : St} {H : Hp} {a : Addr} {xs : List V} {nt : Nat} {caps : List Nat} {tt : TT} {te tl : TE} {Q : VK}
theorem tComp_t : tComp nt caps (iTup K tl) g tt te σ H Q ↔ tl σ H fun x H1 => ∃ a, x = .ref a ∧ (∃ xs, SqT K H1 a xs) ∧ CompJ (Itt K a) nt caps g tt te σ H1 Q := Iff.rfl
end
end L2
namespace L2
open PySem PySem.Spec PyProof.Rows
section
variable {X : Cx} {pins : List (Addr × Obj)} {σ : St} {H : Hp} {s : Shared} {h' : Heap} {K : PySem.W.Frag}
theorem Inv.turned2 {t' : Nat} {e it : Addr} (I : Inv X pins σ H s) (k : ∀ b o, b ≠ e → b ≠ it → s.heap.get? b = some o → h'.get? b = some o) (fe : FpOk X pins H e) (fi : FpOk X pins H it) : Inv X pins σ H { s with heap := h', toks := t' } := by
  have nit : ∀ b u, H b = some u → b ≠ e ∧ b ≠ it := fun b u q => ⟨fun z => (by rw [z, fe.1] at q; cases q), fun z => (by rw [z, fi.1] at q; cases q)⟩
  have nc : ∀ b : Addr, b ∉ [e, it] → b ≠ e ∧ b ≠ it := fun b hc => ⟨fun z => hc (by simp [z]), fun z => hc (by simp [z])⟩
  refine I.step (g' := s.gens) (d' := s.drawn) (ch := [e, it]) (fun b hb => ?_) (fun b o _ _ hc q _ => k b o (nc b hc).1 (nc b hc).2 q) (fun b o _ _ hc q _ => ⟨o.slots, k b o (nc b hc).1 (nc b hc).2 q⟩) (fun _ _ _ _ n => n)
    (fun b o hc q => ⟨o, k b o (nc b hc).1 (nc b hc).2 q⟩) (fun _ _ q => q) (fun _ _ _ q => q) (fun b ps q => ⟨#[], by rw [q]; simp⟩) (fun m hm => ?_) (fun b u q => ?_) I.bare
  · rcases List.mem_cons.mp hb with rfl | hb
    · exact ⟨fe.2.2.2.1, fe.2.1, fe.2.2.2.2.1, fe.2.2.2.2.2⟩
    · obtain rfl : b = it := by simpa using hb
      exact ⟨fi.2.2.2.1, fi.2.1, fi.2.2.2.2.1, fi.2.2.2.2.2⟩
  · obtain ⟨o, es, ep, ho, r⟩ := hm
    exact ⟨o, es, ep, k _ o (Ne.symm fe.2.1) (Ne.symm fi.2.1) ho, r⟩
  · have ne2 : ∀ c, c = b ∨ H c = some (.own b) → c ≠ e ∧ c ≠ it := fun c hc => by
      rcases hc with z | z
      · rw [z]; exact nit b u q
      · exact nit c _ z
    exact (I.hok b u q).stay (fun c v hc z => k c v (ne2 c hc).1 (ne2 c hc).2 z) (fun _ z => z) fun _ _ z => z
def Ite (K : PySem.W.Frag) (a : Addr) : It :=
  ⟨fun i H => ∃ xs x, SqL K H a xs ∧ xs[i]? = some x, fun i H v H' => ∃ t, v = .ref t ∧ H t = none ∧ ∀ xs x, SqL K H a xs → xs[i]? = some x → H' = upd H t (.tup [.int (i : Nat), x]), fun i H => ∃ xs, SqL K H a xs ∧ xs.length ≤ i⟩
theorem turn_enum {P : Program} {w : World} {elts : List Expr} {x1 : Nat} {pos : Pos} (a e it : Addr) (hei : e ≠ it) : Turn P w K (.Tuple elts x1 pos) (Ite K a) [e, it] e (fun i h => (∃ old, IsEnum h e it i old) ∧ h.IsListIter it a i) where
  mem := by simp
  obj := fun i h st b hb => by
    obtain ⟨⟨old, he⟩, o, e2, c, d⟩ := st
    rcases List.mem_cons.mp hb with rfl | hb
    · exact ⟨_, he, fun v z => by
        have z' : Data.fields _ = Data.cell v := z
        cases z'⟩
    · obtain rfl : b = it := by simpa using hb
      exact ⟨o, e2, fun v z => by rw [d] at z; cases z⟩
  keep := fun i h h' st k => by
    obtain ⟨⟨old, he⟩, st⟩ := st
    exact ⟨⟨old, k e (by simp) _ he⟩, st.at fun o q => k it (by simp) o q⟩
  item := by
    intro X hP hw hK hc i pins s σ H E I hf st hg
    subst hP hw hK
    obtain ⟨xs, x, hq, hx⟩ := hg
    obtain ⟨its, rv, p, hz⟩ := I.list hq
    obtain ⟨u, hu, ru⟩ := rv.get hx
    obtain ⟨⟨old, he⟩, hit⟩ := st
    have fe := hf e (by simp)
    have fi := hf it (by simp)
    have hel : e < s.heap.objs.size := Heap.lt_size he
    have hil : it < s.heap.objs.size := by obtain ⟨_, q, _⟩ := hit; exact Heap.lt_size q
    have fr := I.hok.fresh (Nat.le_refl s.heap.objs.size)
    refine wpAny_pyNext_enum_item he hit p.isList (x := u) (by simpa using hu) hei fun h' ho hit' hT hsz hk => ⟨_, rfl, ?_⟩
    refine wpAny_letOwnedTupleGo_enum (s := { s with heap := h', toks := s.toks + 1 }) ho fun h2 he2 hs2 => ?_
    have I1 : Inv X pins σ (upd H s.heap.objs.size (.tup [.int (i : Nat), x])) { s with heap := s.heap.push { cls := .type "tuple", data := .seq #[.int i s.toks, u] }, toks := s.toks + 1 } :=
      I.laid (t' := s.toks + 1) (fun b u e => Heap.get?_push_of_some _ e) (Nat.le_refl _) ⟨by simp; decide, [.int i s.toks, u], .cons ⟨_, rfl⟩ (.cons ru .nil), ⟨_, Heap.get?_push_size _ rfl, rfl, _, rfl⟩⟩
    have up : ∀ b, b < s.heap.objs.size → H b = none → upd H s.heap.objs.size (.tup [.int (i : Nat), x]) b = none := fun b hb hn => by
      rw [upd_ne (Nat.ne_of_lt hb)]
      exact hn
    have I2 : Inv X pins σ (upd H s.heap.objs.size (.tup [.int (i : Nat), x])) { s with heap := h2, toks := s.toks + 1 } 
      := Inv.turned2 (s := { s with heap := s.heap.push { cls := .type "tuple", data := .seq #[.int i s.toks, u] }, toks := s.toks + 1 }) (h' := h2) (t' := s.toks + 1) (e := e) (it := it) I1 (fun b o b1 b2 q => by
      rw [hs2.2 b b1]
      by_cases c : b = s.heap.objs.size
      · subst c
        have q0 : (s.heap.push { cls := .type "tuple", data := .seq #[.int i s.toks, u] }).get? s.heap.objs.size = some { cls := .type "tuple", data := .seq #[.int i s.toks, u] } := Heap.get?_push_size _ rfl
        have q1 : (s.heap.push { cls := .type "tuple", data := .seq #[.int i s.toks, u] }).get? s.heap.objs.size = some o := q
        rw [q0] at q1
        cases q1
        exact hT
      · have q1 : (s.heap.push { cls := .type "tuple", data := .seq #[.int i s.toks, u] }).get? b = some o := q
        rw [Heap.get?_push_ne _ _ _ c] at q1
        exact hk b o b1 b2 q1) ⟨up e hel fe.1, fe.2⟩ ⟨up it hil fi.1, fi.2⟩
    refine ⟨.ref s.heap.objs.size, _, I2, rfl, ⟨_, rfl, fr, fun ys y hy hyx => ?_⟩, ⟨⟨_, he2⟩, hit'.at fun o q => (hs2.2 it (Ne.symm hei)).trans q⟩, fun b hb => ?_⟩
    · rw [I.list_inj hy hq, hx] at hyx
      cases hyx
      rfl
    · rcases List.mem_cons.mp hb with rfl | hb
      · exact up _ hel fe.1
      · obtain rfl : b = it := by simpa using hb
        exact up _ hil fi.1
  done := by
    intro X hP hw hK hc i pins s σ H E I hf st hg
    subst hP hw hK
    obtain ⟨xs, hq, hx⟩ := hg
    obtain ⟨its, rv, p, hz⟩ := I.list hq
    obtain ⟨⟨old, he⟩, hit⟩ := st
    obtain ⟨f0, f1, f2, f3, f4, f5⟩ := hf it (by simp)
    have hl := rv.length
    exact wpAny_pyNext_enum_end (I.ok.hd hc) he hit p.isList (by simp; omega) fun h' eb => ⟨rfl, I.turned (t' := s.toks) (fun b o hb e => eb b o hb e) f0 f1 f3 f4 f5⟩
  self := fun _ _ _ _ _ st h => by
    obtain ⟨⟨old, he⟩, _⟩ := st
    exact wpAny_pyIter_enum he h
def iEnum (K : PySem.W.Frag) (ta : TA) : TI := fun σ H R => ta σ H fun vs H1 => ∃ a xs, vs = [.ref a] ∧ SqL K H1 a xs ∧ R (Ite K a) H1
theorem pi_enum {a : Expr} {elts : List Expr} {x1 : Nat} {tp : Pos} {ta : TA} {p pos : Pos} (hK : X.K = K) (hg : Gl X "enumerate") (hm : X.mg "enumerate" = none) (ha : PA X [a] ta) (hs : starEach [a] X.env = [(false, eval a X.env)] := by rfl) : PI X (.Tuple elts x1 tp) (.Call (.Name "enumerate" p) [a] [] pos) (iEnum K ta) := by
  subst hK
  intro pins s σ H R I h
  refine Call_ (ld_blt I hg hm PyProof.Rows.boot_enumerate (PyProof.Rows.callWith_type1 (thn (ha pos pins s σ H _ I h) fun us s1 ⟨vs, H1, I1, r1, q1⟩ => ?_) hs rfl))
  obtain ⟨b, xs, rfl, hq, q⟩ := q1
  obtain ⟨u, rfl, ru⟩ := vals1 r1
  cases ru
  obtain ⟨its, rv, pl, hz⟩ := I1.list hq
  refine call_enumerate_list pl.isList fun h' he hi hsz hk => ?_
  have I2 : Inv X pins σ H1 { s1 with heap := h' } := I1.kept (t' := s1.toks) hk
  refine wpAny_pyIter_enum he ⟨s1.heap.objs.size + 1, [s1.heap.objs.size + 1, s1.heap.objs.size], _, _, H1, rfl, I2, turn_enum b _ _ (Nat.succ_ne_self _), ⟨⟨_, he⟩, hi⟩, fun c hb => ?_, q⟩
  rcases List.mem_cons.mp hb with rfl | hb
  · exact I1.fpOk (by omega) (I1.hok.fresh (by omega))
  · obtain rfl : c = s1.heap.objs.size := by simpa using hb
    exact I1.fpOk (Nat.le_refl _) (I1.hok.fresh (Nat.le_refl _))
theorem gk_two {K : PySem.W.Frag} : GKeep 2 (gTup K 2 (gCons (gName 0) (gCons (gName 1) gNil))) := by
  intro v cs H Q h
  obtain ⟨a, xs, e, hq, hl, v0, r0, e0, v1, r1, e1, e2, q⟩ := h
  refine ⟨a, xs, e, hq, hl, v0, r0, e0, v1, r1, e1, e2, fun j u z => ?_, q⟩
  match j with
  | 0 => simp at z
  | 1 => simp at z
  | j + 2 => simpa using z
end
section
variable {K : PySem.W.Frag} {g : TG} {σ : St} {H : Hp} {a : Addr} {nt : Nat} {caps : List Nat} {tt : TT} {te : TE} {Q : VK} {ta : TA}
theorem tComp_e : tComp nt caps (iEnum K ta) g tt te σ H Q ↔ ta σ H fun vs H1 => ∃ a xs, vs = [.ref a] ∧ SqL K H1 a xs ∧ CompJ (Ite K a) nt caps g tt te σ H1 Q := Iff.rfl
theorem compEs {fs : List Nat} (c : Nat → Nat → Bool) (f : Nat → V) (hq : SqL K H a (nV fs)) (hz : fs.length ≤ 1000)
    (hs : ∀ i x, fs[i]? = some x → ∀ (R : VK) (R' : Hp → Prop) (H1 : Hp) (t : Addr), Same H H1 → H1 t = some (.tup [.int (i : Nat), .int (x : Nat)]) → (c i x = true → R (f i) H1) → (c i x = false → R' H1) →
      g (.ref t) (capSt nt caps σ) H1 fun σ4 H4 => tt σ4 H4 fun b H5 => if b = true then te σ4 H5 R else R' H5)
    (hd : ∀ H1 p, Same H H1 → H1 p = none → Q (.ref p) (upd H1 p (.lst (((List.range fs.length).filter fun i => c i (fs.getD i 0)).map f)))) : CompJ (Ite K a) nt caps g tt te σ H Q := by
  refine ⟨fun i m ys H1 => m = fs.length - i ∧ i ≤ fs.length ∧ Same H H1 ∧ ys = ((List.range i).filter fun i => c i (fs.getD i 0)).map f, ⟨_, rfl, Nat.zero_le _, Same.refl _, rfl⟩, ?_⟩
  rintro i m ys H2 ⟨rfl, hi, s2, rfl⟩
  have hq2 := s2.seq hq
  have hy : (((List.range i).filter fun i => c i (fs.getD i 0)).map f).length ≤ i := by
    rw [List.length_map]
    exact Nat.le_trans (List.length_filter_le _ _) (by simp)
  by_cases hlt : i < fs.length
  · have hx : fs[i]? = some fs[i] := List.getElem?_eq_getElem hlt
    have hd0 : fs.getD i 0 = fs[i] := by rw [List.getD_eq_getElem?_getD, hx]; rfl
    refine .inr ⟨⟨nV fs, _, hq2, nV_at hx⟩, small5' (by omega), fun v H3 y => ?_⟩
    obtain ⟨t, rfl, ht, y⟩ := y
    have e3 := y _ _ hq2 (nV_at hx)
    have s3 : Same H2 H3 := by rw [e3]; exact Same.new ht
    refine hs i fs[i] hx _ _ H3 t (s2.trans s3) (by rw [e3, upd_same]) (fun hc => ⟨fs.length - (i + 1), by omega, rfl, hlt, s2.trans s3, ?_⟩) fun hc => ⟨fs.length - (i + 1), by omega, rfl, hlt, s2.trans s3, ?_⟩
    · rw [List.range_succ, List.filter_append, List.map_append, List.filter_cons, hd0, hc, List.filter_nil]; rfl
    · rw [List.range_succ, List.filter_append, List.map_append, List.filter_cons, hd0, hc, List.filter_nil]; exact (List.append_nil _).symm
  · obtain rfl : i = fs.length := by omega
    exact .inl ⟨⟨nV fs, hq2, by rw [nV_len]; exact Nat.le_refl _⟩, small5 (by omega), fun p hp => hd H2 p s2 hp⟩
end
section
variable {g : TG} {tb : TS} {D : Ends} {σ : St} {H : Hp}
theorem loopQn {l : Int} {lo n : Nat} (e : l = (lo : Nat)) (Pv : Nat → St → Hp → Prop) (h0 : Pv 0 σ H)
    (hs : ∀ i σ H, i < n → Pv i σ H → ∀ N : St → Hp → Prop, (∀ σ' H', Pv (i + 1) σ' H' → N σ' H') → g (.int ((lo + i : Nat))) σ H fun σ2 H2 => tb { D with nx := N, ct := N, bk := D.nx } σ2 H2) (hd : ∀ σ H, Pv n σ H → D.nx σ H) : LoopJ (Itr l n) g tb D σ H :=
  loopR Pv h0 (fun i σ H hi p => by
    rw [e, show ((lo : Nat) : Int) + (i : Nat) = ((lo + i : Nat) : Int) by omega]
    exact hs i σ H hi p _ fun _ _ q => q) hd
def Lsts (H0 H : Hp) (p : Addr) (LL : List (List Nat)) (ps : List Addr) : Prop := H0 p = none ∧ H p = some (.lst (ps.map V.ref)) ∧ ps.length = LL.length ∧ ∀ (j : Nat) (q : Addr) (L : List Nat), ps[j]? = some q → LL[j]? = some L → H0 q = none ∧ H q = some (.lst (nV L))
theorem Lsts.mono {H0 H H' : Hp} {p : Addr} {LL : List (List Nat)} {ps : List Addr} (h : Lsts H0 H p LL ps) (s : Same H H') : Lsts H0 H' p LL ps :=
  ⟨h.1, s _ _ h.2.1, h.2.2.1, fun j q L h1 h2 => ⟨(h.2.2.2 j q L h1 h2).1, s _ _ (h.2.2.2 j q L h1 h2).2⟩⟩
theorem Lsts.back {H0 H1 H : Hp} {p : Addr} {LL : List (List Nat)} {ps : List Addr} (h : Lsts H1 H p LL ps) (s : Same H0 H1) : Lsts H0 H p LL ps :=
  ⟨old_none s h.1, h.2.1, h.2.2.1, fun j q L h1 h2 => ⟨old_none s (h.2.2.2 j q L h1 h2).1, (h.2.2.2 j q L h1 h2).2⟩⟩
theorem Lsts.snoc {H0 H : Hp} {p r : Addr} {LL : List (List Nat)} {ps : List Addr} {L : List Nat} (h : Lsts H0 H p LL ps) (hr : H0 r = none) (hL : H r = some (.lst (nV L))) (hne : ∀ q ∈ ps, q ≠ p) (hrp : r ≠ p) :
    Lsts H0 (upd H p (.lst (ps.map V.ref ++ [.ref r]))) p (LL ++ [L]) (ps ++ [r]) := by
  refine ⟨h.1, by rw [upd_same, List.map_append]; rfl, by rw [List.length_append, List.length_append, h.2.2.1]; rfl, fun j q M h1 h2 => ?_⟩
  have hj : j < ps.length ∨ j = ps.length := by
    have := (List.getElem?_eq_some_iff.mp h1).1
    rw [List.length_append] at this
    simp at this
    omega
  rcases hj with hj | hj
  · rw [List.getElem?_append_left hj] at h1
    rw [List.getElem?_append_left (by rw [← h.2.2.1]; exact hj)] at h2
    have := h.2.2.2 j q M h1 h2
    rw [upd_ne (hne q (List.mem_of_getElem? h1))]
    exact this
  · subst hj
    rw [List.getElem?_append_right (Nat.le_refl _), Nat.sub_self] at h1
    rw [h.2.2.1, List.getElem?_append_right (Nat.le_refl _), Nat.sub_self] at h2
    cases h1
    cases h2
    rw [upd_ne hrp]
    exact ⟨hr, hL⟩
theorem Lsts.at {H0 H : Hp} {p : Addr} {LL : List (List Nat)} {ps : List Addr} (h : Lsts H0 H p LL ps) {j : Nat} (hj : j < ps.length) : ∃ (q : Addr) (L : List Nat), ps[j]? = some q ∧ LL[j]? = some L ∧ L ∈ LL ∧ H q = some (.lst (nV L)) := by
  have e1 := List.getElem?_eq_getElem hj
  have e2 : LL[j]? = some (LL[j]'(by rw [← h.2.2.1]; exact hj)) := List.getElem?_eq_getElem _
  exact ⟨_, _, e1, e2, List.mem_of_getElem? e2, (h.2.2.2 j _ _ e1 e2).2⟩
theorem refs_get {ps : List Addr} {i : Nat} {x : V} (h : (ps.map V.ref)[i]? = some x) : ∃ q, ps[i]? = some q ∧ x = .ref q := by
  rw [List.getElem?_map] at h
  cases e : ps[i]? with
  | none => rw [e] at h; cases h
  | some q => rw [e] at h; cases h; exact ⟨q, rfl, rfl⟩
end
end L2
namespace L2
open PySem PySem.Spec PyProof.Rows
def rkV (cs : List Nat) (v : Nat) : List Nat := (List.range cs.length).filter fun i => decide (cs.getD i 0 = v)
def rkd (cs : List Nat) : List (List Nat) := (sd cs).reverse.map (rkV cs)
theorem mem_rkV {cs : List Nat} {v i : Nat} : i ∈ rkV cs v ↔ i < cs.length ∧ cs.getD i 0 = v := by
  unfold rkV
  rw [List.mem_filter, List.mem_range, decide_eq_true_eq]
theorem rkV_rise (cs : List Nat) (v : Nat) : (rkV cs v).Pairwise (· < ·) := List.pairwise_lt_range.sublist List.filter_sublist
theorem mem_rkd {cs L : List Nat} : L ∈ rkd cs ↔ ∃ v ∈ cs, L = rkV cs v := by
  unfold rkd
  rw [List.mem_map]
  constructor
  · rintro ⟨v, hv, rfl⟩
    exact ⟨v, mem_sd.mp (List.mem_reverse.mp hv), rfl⟩
  · rintro ⟨v, hv, rfl⟩
    exact ⟨v, List.mem_reverse.mpr (mem_sd.mpr hv), rfl⟩
theorem rkd_fall (cs : List Nat) : (rkd cs).Pairwise fun L M => ∀ x ∈ L, ∀ y ∈ M, cs.getD y 0 < cs.getD x 0 := by
  unfold rkd
  rw [List.pairwise_map]
  have : (sd cs).reverse.Pairwise (· > ·) := List.pairwise_reverse.mpr (sd_rise cs)
  refine this.imp fun {v u} h x hx y hy => ?_
  rw [(mem_rkV.mp hx).2, (mem_rkV.mp hy).2]
  exact h
theorem rkd_ne {cs L : List Nat} (h : L ∈ rkd cs) : L ≠ [] := by
  obtain ⟨v, hv, rfl⟩ := mem_rkd.mp h
  obtain ⟨i, hi, e⟩ := List.mem_iff_getElem.mp hv
  have : i ∈ rkV cs v := mem_rkV.mpr ⟨hi, by rw [List.getD_eq_getElem?_getD, List.getElem?_eq_getElem hi]; exact e⟩
  exact List.ne_nil_of_mem this
theorem rkd_rise {cs L : List Nat} (h : L ∈ rkd cs) : L.Pairwise (· < ·) := by
  obtain ⟨v, hv, rfl⟩ := mem_rkd.mp h
  exact rkV_rise _ _
theorem rkd_same {cs L : List Nat} (h : L ∈ rkd cs) {x y : Nat} (hx : x ∈ L) (hy : y ∈ L) : cs.getD x 0 = cs.getD y 0 := by
  obtain ⟨v, hv, rfl⟩ := mem_rkd.mp h
  rw [(mem_rkV.mp hx).2, (mem_rkV.mp hy).2]
theorem rkd_lt {cs L : List Nat} (h : L ∈ rkd cs) {x : Nat} (hx : x ∈ L) : x < cs.length := by
  obtain ⟨v, hv, rfl⟩ := mem_rkd.mp h
  exact (mem_rkV.mp hx).1
theorem rkd_flat {cs : List Nat} {x : Nat} : x ∈ (rkd cs).flatten ↔ x < cs.length := by
  rw [List.mem_flatten]
  constructor
  · rintro ⟨L, h1, h2⟩
    exact rkd_lt h1 h2
  · intro h
    refine ⟨rkV cs cs[x], mem_rkd.mpr ⟨cs[x], List.getElem_mem h, rfl⟩, mem_rkV.mpr ⟨h, ?_⟩⟩
    rw [List.getD_eq_getElem?_getD, List.getElem?_eq_getElem h]
    rfl
theorem rkd_nodup (cs : List Nat) : (rkd cs).flatten.Nodup := by
  unfold List.Nodup
  rw [List.pairwise_flatten]
  refine ⟨fun L hL => (rkd_rise hL).imp fun h => Nat.ne_of_lt h, (rkd_fall cs).imp fun h x hx y hy e => ?_⟩
  have := h x hx y hy
  rw [e] at this
  exact absurd this (Nat.lt_irrefl _)
theorem rkd_len (cs : List Nat) : (rkd cs).length ≤ cs.length := by
  unfold rkd
  rw [List.length_map, List.length_reverse]
  exact sd_le cs (Nat.le_refl _)
theorem rkd_flat_len (cs : List Nat) : (rkd cs).flatten.length ≤ cs.length := Fam.nodup_le cs.length _ (rkd_nodup cs) fun x hx => rkd_flat.mp hx
theorem trns_at {m k : Nat} {f : Nat → Bool} (h : k < m) : (Fam.trns m f).getD k 0 = Fam.trn m f k := by
  unfold Fam.trns
  rw [List.getD_eq_getElem?_getD, List.getElem?_map, List.getElem?_range h]
  rfl
theorem trns_len (m : Nat) (f : Nat → Bool) : (Fam.trns m f).length = m := by simp [Fam.trns]
def NoAp (m : Nat) (f : Nat → Bool) (x y : Nat) : Prop := ∀ x' y', x' < y' → y' < m → (x' < x ∨ x' = x ∧ y' < y) → Fam.part m f x' y' = none ∨ Fam.part m f y' x' = none
theorem NoAp.all {m : Nat} {f : Nat → Bool} (h : NoAp m f m 0) {x y : Nat} (hx : x < m) (hy : y < m) (hxy : x ≠ y) : Fam.part m f x y = none ∨ Fam.part m f y x = none := by
  rcases Nat.lt_or_gt_of_ne hxy with z | z
  · exact h x y z hy (.inl hx)
  · exact (h y x z hx (.inl hy)).symm
end L2
namespace L2
open PySem PySem.Spec PyProof.Rows
section
variable {m : Nat} {o cs cs' : List Nat}
end
theorem pi_listK {X : Cx} {K : PySem.W.Frag} {tg l : Expr} {tl : TE} (hK : X.K = K) (hl : PE X l tl) : PI X tg l (iList K tl) := hK ▸ pi_list hl
end L2
namespace L2
open PySem PySem.Spec PyProof.Rows
section
variable {m : Nat} {f : Nat → Bool}
theorem ranks_ord (cs : List Nat) : Fam.Ord cs.length (rkd cs).flatten := by
  refine ⟨?_, fun x hx => rkd_flat.mp hx, rkd_nodup cs⟩
  have h1 := rkd_flat_len cs
  have h2 := Fam.len_sub (List.range cs.length) (rkd cs).flatten List.nodup_range fun x hx => rkd_flat.mpr (List.mem_range.mp hx)
  rw [List.length_range] at h2
  omega
theorem ranks_fall (cs : List Nat) : (rkd cs).flatten.Pairwise fun x y => cs.getD y 0 ≤ cs.getD x 0 := by
  rw [List.pairwise_flatten]
  refine ⟨fun L hL => List.pairwise_iff_forall_sublist.mpr fun {x y} s => ?_, (rkd_fall cs).imp fun h x hx y hy => Nat.le_of_lt (h x hx y hy)⟩
  have hx : x ∈ L := s.subset (by simp)
  have hy : y ∈ L := s.subset (by simp)
  exact Nat.le_of_eq (rkd_same hL hy hx)
def Gvn (m : Nat) (LL : List (List Nat)) (F N : List Nat) : Prop := N.length = m ∧ ∀ (j : Nat) (L : List Nat) (v : Nat), LL[j]? = some L → F[j]? = some v → ∀ k ∈ L, N.getD k 0 = v
theorem gvn_eq {cs F N N' : List Nat} (hF : F.length = (rkd cs).length) (h : Gvn cs.length (rkd cs) F N) (h' : Gvn cs.length (rkd cs) F N') : N = N' := by
  refine List.ext_getElem (h.1.trans h'.1.symm) fun k hk hk' => ?_
  have hm : k < cs.length := by have := h.1; omega
  obtain ⟨L, hL, hk2⟩ := List.mem_flatten.mp (rkd_flat.mpr hm)
  obtain ⟨j, hj, e⟩ := List.mem_iff_getElem.mp hL
  have e1 : (rkd cs)[j]? = some L := by rw [List.getElem?_eq_getElem hj, e]
  have e2 := List.getElem?_eq_getElem (show j < F.length by omega)
  have a := h.2 j L _ e1 e2 k hk2
  have b := h'.2 j L _ e1 e2 k hk2
  rw [List.getD_eq_getElem?_getD, List.getElem?_eq_getElem hk] at a
  rw [List.getD_eq_getElem?_getD, List.getElem?_eq_getElem hk'] at b
  exact a.trans b.symm
theorem weigh5 (hm : m ≤ 5) (u : Fam.Up m f) (h : NoAp m f m 0) : ∃ (F N : List Nat) (b : Nat), F.length = (rkd (Fam.trns m f)).length ∧ F.Pairwise (· > ·) ∧ (∀ x ∈ F, x ≤ 5) ∧ Gvn m (rkd (Fam.trns m f)) F N ∧ ∀ s, s < 2 ^ m → f s = decide (b ≤ Fam.wt N s) := by
  have h8 : m ≤ 8 := by omega
  have ho := ranks_ord (Fam.trns m f)
  rw [trns_len] at ho
  have hf := ranks_fall (Fam.trns m f)
  generalize eo : (rkd (Fam.trns m f)).flatten = o at ho hf
  have hl : o.length = m := ho.1
  have fall : ∀ i j, i < j → j < m → Fam.trn m f (Fam.at' o j) ≤ Fam.trn m f (Fam.at' o i) := fun i j hij hj => by
    have := List.pairwise_iff_getElem.mp hf i j (by omega) (by omega) hij
    have e : ∀ k (hk : k < o.length), o[k] = Fam.at' o k := fun k hk => by
      unfold Fam.at'
      rw [List.getD_eq_getElem?_getD, List.getElem?_eq_getElem hk]; rfl
    rw [e i (by omega), e j (by omega), trns_at (ho.at_lt hj), trns_at (ho.at_lt (show i < m by omega))] at this
    exact this
  have ug : Fam.Up m fun a => f (Fam.ex o a) := fun a b ha s hb => u _ (Fam.ex o b) (Fam.ex_lt ho ha) ((Fam.ex_sub h8 ho ha (Fam.sub_lt s ha)).mpr s) hb
  have rg : Fam.Reg m fun a => f (Fam.ex o a) := fun i j hij hj => by
    refine Fam.part_ex_none (g := f) h8 ho (fun a _ => rfl) hj (by omega) ?_
    have hne : Fam.at' o j ≠ Fam.at' o i := fun z => by have := ho.inj hj (by omega) z; omega
    exact (Fam.part_turns u hne (ho.at_lt hj) (ho.at_lt (by omega)) (h.all (ho.at_lt hj) (ho.at_lt (by omega)) hne)).mpr (fall i j hij hj)
  obtain ⟨W, b, w5, wo, wf⟩ := Fam.reg_wt hm ug rg
  have te : ∀ k, k < m → Fam.trn m (fun a => f (Fam.ex o a)) k = Fam.trn m f (Fam.at' o k) := fun k hk => (Fam.trn_ex (g := f) h8 ho (fun a _ => rfl) hk).symm
  -- by names
  let N : List Nat := (List.range m).map fun x => W.getD (o.idxOf x) 0
  have Ne : ∀ k, k < m → N.getD (Fam.at' o k) 0 = W.getD k 0 := fun k hk => by
    show ((List.range m).map fun x => W.getD (o.idxOf x) 0).getD _ 0 = _
    rw [List.getD_eq_getElem?_getD, List.getElem?_map, List.getElem?_range (ho.at_lt hk)]
    show W.getD (o.idxOf (Fam.at' o k)) 0 = _
    rw [Fam.idx_at ho hk]
  have No : ∀ x y, x < m → y < m → (Fam.trn m f y < Fam.trn m f x ↔ N.getD y 0 < N.getD x 0) := fun x y hx hy => by
    obtain ⟨i, hi, rfl⟩ := ho.sur hx
    obtain ⟨j, hj, rfl⟩ := ho.sur hy
    rw [Ne i hi, Ne j hj, ← te i hi, ← te j hj]
    exact wo i j hi hj
  have N5 : ∀ x, x < m → N.getD x 0 ≤ 5 := fun x hx => by
    obtain ⟨i, hi, rfl⟩ := ho.sur hx
    rw [Ne i hi]
    exact w5 i hi
  have lr : ∀ {L : List Nat}, L ∈ rkd (Fam.trns m f) → ∀ {x : Nat}, x ∈ L → x < m := fun hL x hx => by
    have := rkd_lt hL hx
    rwa [trns_len] at this
  have hd : ∀ {L : List Nat}, L ∈ rkd (Fam.trns m f) → L.headD 0 ∈ L := fun {L} hL => by
    cases L with
    | nil => exact absurd rfl (rkd_ne hL)
    | cons a L => exact List.mem_cons_self
  refine ⟨(rkd (Fam.trns m f)).map fun L => N.getD (L.headD 0) 0, N, b, List.length_map .., ?_, fun x hx => ?_, ⟨by simp [N], fun j L v hL hv k hk => ?_⟩, fun s hs => ?_⟩
  · rw [List.pairwise_map]
    refine List.Pairwise.imp_of_mem (fun {L M} hL hM z => ?_) (rkd_fall (Fam.trns m f))
    have := z _ (hd hL) _ (hd hM)
    rw [trns_at (lr hL (hd hL)), trns_at (lr hM (hd hM))] at this
    exact (No _ _ (lr hL (hd hL)) (lr hM (hd hM))).mp this
  · obtain ⟨L, hL, rfl⟩ := List.mem_map.mp hx
    exact N5 _ (lr hL (hd hL))
  · rw [List.getElem?_map, hL] at hv
    cases hv
    have mL := List.mem_of_getElem? hL
    have e := rkd_same mL hk (hd mL)
    rw [trns_at (lr mL hk), trns_at (lr mL (hd mL))] at e
    have n1 := No _ _ (lr mL hk) (lr mL (hd mL))
    have n2 := No _ _ (lr mL (hd mL)) (lr mL hk)
    show N.getD k 0 = N.getD (L.headD 0) 0
    rw [e] at n1 n2
    have := Nat.lt_irrefl (Fam.trn m f (L.headD 0))
    omega
  · obtain ⟨a, ha, rfl⟩ : ∃ a, a < 2 ^ m ∧ Fam.ex o a = s := ⟨_, Fam.ex_lt (Fam.back_ord ho) hs, Fam.ex_back h8 ho hs⟩
    rw [Fam.wt_ex h8 ho Ne ha]
    exact wf a ha
def fl : Nat → Nat → List (List Nat)
  | 0, _ => [[]]
  | n + 1, M => (List.range M).flatMap fun a => (fl n a).map (a :: ·)
theorem mem_fl : ∀ {F : List Nat} {M : Nat}, F.Pairwise (· > ·) → (∀ x ∈ F, x < M) → F ∈ fl F.length M
  | [], _, _, _ => by simp [fl]
  | a :: F, M, hp, hl => by
    have hp' := List.pairwise_cons.mp hp
    exact List.mem_flatMap.mpr ⟨a, List.mem_range.mpr (hl a List.mem_cons_self), List.mem_map.mpr ⟨F, mem_fl hp'.2 fun x hx => hp'.1 x hx, rfl⟩⟩
theorem fl_len : ∀ {n M : Nat} {F : List Nat}, F ∈ fl n M → F.length = n
  | 0, _, F, h => by
    have : F = [] := by simpa [fl] using h
    rw [this]; rfl
  | n + 1, M, F, h => by
    obtain ⟨a, _, h1⟩ := List.mem_flatMap.mp h
    obtain ⟨G, h2, rfl⟩ := List.mem_map.mp h1
    rw [List.length_cons, fl_len h2]
theorem flat_le {α β : Type} {g : α → List β} {c : Nat} : ∀ {L : List α}, (∀ a ∈ L, (g a).length ≤ c) → (L.flatMap g).length ≤ L.length * c
  | [], _ => by simp
  | a :: L, h => by
    have h1 := flat_le (L := L) fun x hx => h x (List.mem_cons_of_mem _ hx)
    have h2 := h a List.mem_cons_self
    rw [List.flatMap_cons, List.length_append, List.length_cons, Nat.succ_mul]
    omega
theorem fl_few : ∀ {n M : Nat}, M ≤ 6 → (fl n M).length ≤ 6 ^ n
  | 0, _, _ => by simp [fl]
  | n + 1, M, h => by
    have := flat_le (L := List.range M) (g := fun a => (fl n a).map (a :: ·)) (c := 6 ^ n) fun a ha => by
      rw [List.length_map]
      exact fl_few (by have := List.mem_range.mp ha; omega)
    rw [List.length_range] at this
    have e : (fl (n + 1) M).length ≤ M * 6 ^ n := this
    refine Nat.le_trans e ?_
    rw [Nat.pow_succ, Nat.mul_comm (6 ^ n)]
    exact Nat.mul_le_mul_right _ h
end
end L2
namespace L2
open PySem PySem.Spec PyProof.Rows
section
variable {X : Cx}
end
end L2
namespace L2
open PySem PySem.Spec PyProof.Rows
section
variable {K : PySem.W.Frag} {g : TG} {tb : TS} {D : Ends} {σ : L2.St} {H : Hp} {a : Addr} {ta : TA}
end
inductive Pap (H : Hp) (fs gs : List Nat) (m : Nat) : Nat → Nat → Nat → Addr → Prop
  | one {n ti to : Nat} {t : Addr} {j b : Nat} (h : H t = some (.tup [.str "one", .int (j : Nat)])) (h1 : fs[j]? = some b) (h2 : Fam.sub b ti) : Pap H fs gs m (n + 1) ti to t
  | other {n ti to : Nat} {t : Addr} {j b : Nat} (h : H t = some (.tup [.str "other", .int (j : Nat)])) (h1 : gs[j]? = some b) (h2 : Fam.sub b to) : Pap H fs gs m (n + 1) ti to t
  | name {n ti to : Nat} {t u v : Addr} {k : Nat} (h : H t = some (.tup [.str "name", .int (k : Nat), .ref u, .ref v])) (hk : k < m) (h1 : ti.testBit k = false) (h2 : to.testBit k = false) (p1 : Pap H fs gs m n (ti ||| 2 ^ k) to u) (p2 : Pap H fs gs m n ti (to ||| 2 ^ k) v) : Pap H fs gs m (n + 1) ti to t
theorem Pap.mono {H H' : Hp} {fs gs : List Nat} {m n ti to : Nat} {t : Addr} (h : Pap H fs gs m n ti to t) (s : Same H H') : Pap H' fs gs m n ti to t := by
  induction h with
  | one h h1 h2 => exact .one (s _ _ h) h1 h2
  | other h h1 h2 => exact .other (s _ _ h) h1 h2
  | name h hk h1 h2 _ _ i1 i2 => exact .name (s _ _ h) hk h1 h2 i1 i2
end L2
namespace L2
open PySem PySem.Spec PyProof.Rows
theorem call_tree_kw {prog : Program} {w : World} {A : Around} {E : Value → Shared → Prop} {s : Shared} {id : String} {b : Builtin} {args : List Value} {kw : List (Str × Value)} {Q : Value → Shared → Prop} (hk : builtinKind id = none) (hp : plainId id = true) (hb : entryFor table id = some b) (ha : argsOk id ⟨args, kw⟩)
    (hc : wpAny (model prog w) A.in1 (b ⟨args, kw⟩) (fun fin s' => match fin with
      | .done f => (match (Except.ok f : Result) with | .ok (.ret v) => Q v s' | .ok _ => False | .error e => E e s')
      | .again c => c.quiet = true ∧ codeAny (model prog w) A c (fun r s' => match r with | .ok (.ret v) => Q v s' | .ok _ => False | .error e => E e s') s') E s) :
    wpAny (model prog w) A (call (.builtin id) args kw) Q E s := by
  refine wpAny_call (codeAny_call_builtin hp hb ?_)
  simp only [checkBuiltinCall, hk]
  cases hsig : Manifest.signature? id with
  | none => exact wpAny_pure hc
  | some sig =>
    have ha' : Bind.checkArgs id sig ⟨args, kw⟩ = pure () := by simpa only [argsOk, hsig] using ha
    simp only [ha']; exact wpAny_pure hc
theorem args_maxd (a d : Value) : argsOk "max" ⟨[a], [("default", d)]⟩ := by unfold argsOk; kernel_rfl
section
variable {prog : Program} {w : World} {A : Around} {R : Result → Shared → Prop} {I : Addr} {fp wr : List Addr} {n : Nat} {P : Nat → Value → Prop} {St : Nat → Heap → Prop} {kw : List (Str × Value)}
theorem max_kw (W : Walks prog w A.in1 I fp wr n P St) (bt : Nat → Nat → Bool) (hcmp : CmpOf prog w A.in1 .Gt P bt) (S : Addr) (hSf : S ∉ fp) :
    ∀ (k j : Nat) (s : Shared) (vb : Value) (c : Nat), n - (j + 1) = k → j + 1 ≤ n → St (j + 1) s.heap → P (argBest bt j) vb →
    s.heap.get? S = some { cls := .type "list", dict := none, data := .seq #[vb, vb] c, slots := #[] } →
    (∀ v h' tk, P (argBest bt (n - 1)) v → (∀ b o, b ∉ wr → b ≠ S → s.heap.get? b = some o → h'.get? b = some o) → R (.ok (.ret v)) { s with heap := h', toks := tk }) →
    codeAny (model prog w) A (.builtin "max.loop" ⟨[.ref I, .none, .ref S], kw⟩) R s := by
  have wS : S ∉ wr := fun z => hSf (W.sub _ z)
  have nm : (toString "max" ++ toString ".loop" : String) = "max.loop" := by decide
  intro k
  induction k with
  | zero =>
    intro j s vb c hk hj hst hPb hS hR
    have jn : j + 1 = n := by omega
    refine codeAny_builtin F.entry_max_loop ?_; rw [Around.under_plainId F.plain_max_loop _]
    show wpAny _ A.in1 (seqItems? (.ref S) >>= _) _ _ s; refine wpAny_bind (wpAny_seqItems hS rfl ?_)
    show wpAny _ A.in1 (tryCatch (pyNext (.ref I)) _ >>= _) _ _ s; refine wpAny_bind (wpAny_tryCatch (W.done s _ _ (jn ▸ hst) fun h1 tk kp => ?_))
    have gS := kp S _ wS hS
    show wpAny _ A.in1 (updateSeq S (fun _ => #[]) >>= _) _ _ _; refine wpAny_bind ?_
    refine wpAny_updateSeq gS rfl (wpAny_bind (wpAny_letGo (wpAny_pure (hR vb _ tk (by rw [← jn]; exact hPb) fun b o b1 b2 e => ?_))))
    exact (Heap.get?_update_other _ _ (Ne.symm b2)).trans (kp b o b1 e)
  | succ k ih =>
    intro j s vb c hk hj hst hPb hS hR
    have jn : j + 1 < n := by omega
    refine codeAny_builtin F.entry_max_loop ?_; rw [Around.under_plainId F.plain_max_loop _]
    show wpAny _ A.in1 (seqItems? (.ref S) >>= _) _ _ s; refine wpAny_bind (wpAny_seqItems hS rfl ?_)
    show wpAny _ A.in1 (tryCatch (pyNext (.ref I)) _ >>= _) _ _ s; refine wpAny_bind (wpAny_tryCatch (W.item (j + 1) s _ _ jn hst fun v h1 tk hP st1 kp => ?_))
    have gS := kp S _ wS hS
    show wpAny _ A.in1 (tryCatch (holding [v, v] (richCompare .Gt v vb >>= _)) _ >>= _) _ _ _; refine wpAny_bind (wpAny_tryCatch (wpAny_holding (wpAny_bind (hcmp (j + 1) (argBest bt j) v vb _ _ _ hP hPb ?_))))
    refine wpAny_bind (wpAny_holding (wpAny_truthy_bool (wpAny_bind (wpAny_letGo (wpAny_pure ?_)))))
    cases hb : bt (j + 1) (argBest bt j) with
    | true =>
      rw [if_pos rfl]; refine wpAny_bind ?_
      refine wpAny_updateSeq gS rfl (wpAny_bind (wpAny_letGo ?_)); rw [nm]
      refine wpAny_pure ⟨plainId_quiet F.plain_max_loop _, ih (j + 1) _ v _ (by omega) jn (W.frame _ _ _ st1 fun b hf o e => ?_) (by unfold argBest; rw [hb, if_pos rfl]; exact hP) (Heap.get?_update_self _ gS rfl) fun v' h2 tk2 hP2 kp2 => ?_⟩
      · exact (Heap.get?_update_other _ _ (fun z : S = b => hSf (z ▸ hf))).trans e
      · exact hR v' h2 tk2 hP2 fun b o b1 b2 e => kp2 b o b1 b2 ((Heap.get?_update_other _ _ (Ne.symm b2)).trans (kp b o b1 e))
    | false =>
      rw [if_neg (by decide)]; refine wpAny_bind (wpAny_letGo ?_); rw [nm]
      refine wpAny_pure ⟨plainId_quiet F.plain_max_loop _, ih (j + 1) _ vb c (by omega) jn st1 (by unfold argBest; rw [hb, if_neg (by decide)]; exact hPb) gS fun v' h2 tk2 hP2 kp2 => ?_⟩
      exact hR v' h2 tk2 hP2 fun b o b1 b2 e => kp2 b o b1 b2 (kp b o b1 e)
theorem max_first (W : Walks prog w A.in1 I fp wr n P St) (bt : Nat → Nat → Bool) (hcmp : CmpOf prog w A.in1 .Gt P bt) (S : Addr) (hSf : S ∉ fp) {d : Value} {s : Shared} {c : Nat} (hst : St 0 s.heap)
    (hS : s.heap.get? S = some { cls := .type "list", dict := none, data := .seq #[] c, slots := #[] })
    (hR : ∀ v h' tk, (n = 0 ∧ v = d ∨ 0 < n ∧ P (argBest bt (n - 1)) v) → (∀ b o, b ∉ wr → b ≠ S → s.heap.get? b = some o → h'.get? b = some o) → R (.ok (.ret v)) { s with heap := h', toks := tk }) :
    codeAny (model prog w) A (.builtin "max.loop" ⟨[.ref I, .none, .ref S], [("default", d)]⟩) R s := by
  have wS : S ∉ wr := fun z => hSf (W.sub _ z)
  have nm : (toString "max" ++ toString ".loop" : String) = "max.loop" := by decide
  refine codeAny_builtin F.entry_max_loop ?_; rw [Around.under_plainId F.plain_max_loop _]
  show wpAny _ A.in1 (seqItems? (.ref S) >>= _) _ _ s; refine wpAny_bind (wpAny_seqItems hS rfl ?_)
  rcases Nat.eq_zero_or_pos n with hn | hn
  · show wpAny _ A.in1 (tryCatch (pyNext (.ref I)) _ >>= _) _ _ s; refine wpAny_bind (wpAny_tryCatch (W.done s _ _ (hn.symm ▸ hst) fun h1 tk kp => ?_))
    show wpAny _ A.in1 (rule _ >>= _) _ _ _; refine wpAny_bind (wpAny_rule (wpAny_pure (hR d h1 tk (.inl ⟨hn, rfl⟩) fun b o b1 b2 e => kp b o b1 e)))
  · show wpAny _ A.in1 (tryCatch (pyNext (.ref I)) _ >>= _) _ _ s; refine wpAny_bind (wpAny_tryCatch (W.item 0 s _ _ hn hst fun v h1 tk hP st1 kp => ?_))
    have gS := kp S _ wS hS
    show wpAny _ A.in1 (updateSeq S (fun _ => #[v, v]) >>= _) _ _ _; refine wpAny_bind ?_
    refine wpAny_updateSeq gS rfl ?_; rw [nm]
    refine wpAny_pure ⟨plainId_quiet F.plain_max_loop _, max_kw W bt hcmp S hSf _ 0 _ v _ rfl hn (W.frame _ _ _ st1 fun b hf o e => ?_) hP (Heap.get?_update_self _ gS rfl) fun v' h2 tk2 hP2 kp2 => ?_⟩
    · exact (Heap.get?_update_other _ _ (fun z : S = b => hSf (z ▸ hf))).trans e
    · exact hR v' h2 tk2 (.inr ⟨hn, hP2⟩) fun b o b1 b2 e => kp2 b o b1 b2 ((Heap.get?_update_other _ _ (Ne.symm b2)).trans (kp b o b1 e))
end
section
variable {prog : Program} {w : World} {A : Around} {E : Value → Shared → Prop} {s : Shared}
theorem max_dflt {l : Addr} {vs : List Value} {ns : List Int} {d : Value} {Q : Value → Shared → Prop} (hh : A.handled = none) (hl : s.heap.IsList l vs.toArray) (hi : IntsAre vs ns)
    (h : ∀ v h' tk, (ns = [] ∧ v = d ∨ ∃ M t, v = .int M t ∧ M ∈ ns ∧ ∀ a ∈ ns, a ≤ M) → (∀ b o, s.heap.get? b = some o → h'.get? b = some o) → Q v { s with heap := h', toks := tk }) :
    wpAny (model prog w) A (call (.builtin "max") [.ref l] [("default", d)]) Q E s := by
  have nm : (toString "max" ++ toString ".loop" : String) = "max.loop" := by decide
  obtain ⟨xs, e⟩ := hi.allInts.items
  have hns : ns = xs.toList.map (·.1) := by rw [← hi.numsOf, ← nums_intItems, ← e]
  rw [e] at hl
  refine call_tree_kw F.kind_max F.plain_max F.entry_max (args_maxd _ _) ?_
  show wpAny _ A.in1 (Builtin.Builtins.bindParams "max" ["key", "default"] 0 ⟨[], [("default", d)]⟩ >>= _) _ _ s
  refine wpAny_bind (wpAny_of_eq (show Builtin.Builtins.bindParams "max" ["key", "default"] 0 ⟨[], [("default", d)]⟩ = pure [none, some d] from rfl) (wpAny_bind (wpAny_pure ?_)))
  refine wpAny_bind (iter_intList hl fun s2 e2 st hfp hlI => ?_)
  have hSf : s2.heap.objs.size ∉ [s.heap.objs.size, l] := fun hm => Nat.lt_irrefl _ (hfp _ hm)
  have W := Walks.list (prog := prog) (w := w) (A := A.in1) hh s.heap.objs.size l hlI (intItems xs)
  refine wpAny_bind (wpAny_newObj_type ?_); rw [nm]
  refine wpAny_pure ⟨plainId_quiet F.plain_max_loop _, max_first W _ (CmpOf.ints_gt (numAt xs) (fun _ _ => intItems_at)) s2.heap.objs.size hSf (d := d) (W.frame _ _ _ st fun b _ o q => Heap.get?_push_of_some _ q) (Heap.get?_push_size _ rfl) fun v h1 tk hP kp => ?_⟩
  subst e2
  refine h v h1 tk ?_ (old_kept fun b o b1 q => kp b o b1 (Nat.ne_of_lt (Heap.lt_size q)) (Heap.get?_push_of_some _ q))
  have sz : (intItems xs).size = xs.size := by simp [intItems]
  rcases hP with ⟨h0, rfl⟩ | ⟨h0, hP⟩
  · refine .inl ⟨?_, rfl⟩
    rw [hns, List.map_eq_nil_iff, ← List.length_eq_zero_iff, Array.length_toList]; omega
  · obtain ⟨t, rfl⟩ := intItems_at hP
    obtain ⟨h1, h2⟩ := argBest_gt (numAt xs) ((intItems xs).size - 1)
    refine .inr ⟨_, t, rfl, ?_, fun a ha => ?_⟩
    · rw [hns, numAt_eq]; exact getD_mem (by rw [List.length_map, Array.length_toList]; omega)
    · rw [hns] at ha; obtain ⟨j, hj, rfl⟩ := mem_getD ha
      rw [List.length_map, Array.length_toList] at hj; rw [← numAt_eq]; exact h2 j (by omega)
end
theorem args_mind (a d : Value) : argsOk "min" ⟨[a], [("default", d)]⟩ := by unfold argsOk; kernel_rfl
section
variable {prog : Program} {w : World} {A : Around} {R : Result → Shared → Prop} {I : Addr} {fp wr : List Addr} {n : Nat} {P : Nat → Value → Prop} {St : Nat → Heap → Prop} {kw : List (Str × Value)}
theorem min_kw (W : Walks prog w A.in1 I fp wr n P St) (bt : Nat → Nat → Bool) (hcmp : CmpOf prog w A.in1 .Lt P bt) (S : Addr) (hSf : S ∉ fp) :
    ∀ (k j : Nat) (s : Shared) (vb : Value) (c : Nat), n - (j + 1) = k → j + 1 ≤ n → St (j + 1) s.heap → P (argBest bt j) vb →
    s.heap.get? S = some { cls := .type "list", dict := none, data := .seq #[vb, vb] c, slots := #[] } →
    (∀ v h' tk, P (argBest bt (n - 1)) v → (∀ b o, b ∉ wr → b ≠ S → s.heap.get? b = some o → h'.get? b = some o) → R (.ok (.ret v)) { s with heap := h', toks := tk }) →
    codeAny (model prog w) A (.builtin "min.loop" ⟨[.ref I, .none, .ref S], kw⟩) R s := by
  have wS : S ∉ wr := fun z => hSf (W.sub _ z)
  have nm : (toString "min" ++ toString ".loop" : String) = "min.loop" := by decide
  intro k
  induction k with
  | zero =>
    intro j s vb c hk hj hst hPb hS hR
    have jn : j + 1 = n := by omega
    refine codeAny_builtin F.entry_min_loop ?_; rw [Around.under_plainId F.plain_min_loop _]
    show wpAny _ A.in1 (seqItems? (.ref S) >>= _) _ _ s; refine wpAny_bind (wpAny_seqItems hS rfl ?_)
    show wpAny _ A.in1 (tryCatch (pyNext (.ref I)) _ >>= _) _ _ s; refine wpAny_bind (wpAny_tryCatch (W.done s _ _ (jn ▸ hst) fun h1 tk kp => ?_))
    have gS := kp S _ wS hS
    show wpAny _ A.in1 (updateSeq S (fun _ => #[]) >>= _) _ _ _; refine wpAny_bind ?_
    refine wpAny_updateSeq gS rfl (wpAny_bind (wpAny_letGo (wpAny_pure (hR vb _ tk (by rw [← jn]; exact hPb) fun b o b1 b2 e => ?_))))
    exact (Heap.get?_update_other _ _ (Ne.symm b2)).trans (kp b o b1 e)
  | succ k ih =>
    intro j s vb c hk hj hst hPb hS hR
    have jn : j + 1 < n := by omega
    refine codeAny_builtin F.entry_min_loop ?_; rw [Around.under_plainId F.plain_min_loop _]
    show wpAny _ A.in1 (seqItems? (.ref S) >>= _) _ _ s; refine wpAny_bind (wpAny_seqItems hS rfl ?_)
    show wpAny _ A.in1 (tryCatch (pyNext (.ref I)) _ >>= _) _ _ s; refine wpAny_bind (wpAny_tryCatch (W.item (j + 1) s _ _ jn hst fun v h1 tk hP st1 kp => ?_))
    have gS := kp S _ wS hS
    show wpAny _ A.in1 (tryCatch (holding [v, v] (richCompare .Lt v vb >>= _)) _ >>= _) _ _ _; refine wpAny_bind (wpAny_tryCatch (wpAny_holding (wpAny_bind (hcmp (j + 1) (argBest bt j) v vb _ _ _ hP hPb ?_))))
    refine wpAny_bind (wpAny_holding (wpAny_truthy_bool (wpAny_bind (wpAny_letGo (wpAny_pure ?_)))))
    cases hb : bt (j + 1) (argBest bt j) with
    | true =>
      rw [if_pos rfl]; refine wpAny_bind ?_
      refine wpAny_updateSeq gS rfl (wpAny_bind (wpAny_letGo ?_)); rw [nm]
      refine wpAny_pure ⟨plainId_quiet F.plain_min_loop _, ih (j + 1) _ v _ (by omega) jn (W.frame _ _ _ st1 fun b hf o e => ?_) (by unfold argBest; rw [hb, if_pos rfl]; exact hP) (Heap.get?_update_self _ gS rfl) fun v' h2 tk2 hP2 kp2 => ?_⟩
      · exact (Heap.get?_update_other _ _ (fun z : S = b => hSf (z ▸ hf))).trans e
      · exact hR v' h2 tk2 hP2 fun b o b1 b2 e => kp2 b o b1 b2 ((Heap.get?_update_other _ _ (Ne.symm b2)).trans (kp b o b1 e))
    | false =>
      rw [if_neg (by decide)]; refine wpAny_bind (wpAny_letGo ?_); rw [nm]
      refine wpAny_pure ⟨plainId_quiet F.plain_min_loop _, ih (j + 1) _ vb c (by omega) jn st1 (by unfold argBest; rw [hb, if_neg (by decide)]; exact hPb) gS fun v' h2 tk2 hP2 kp2 => ?_⟩
      exact hR v' h2 tk2 hP2 fun b o b1 b2 e => kp2 b o b1 b2 (kp b o b1 e)
theorem min_first (W : Walks prog w A.in1 I fp wr n P St) (bt : Nat → Nat → Bool) (hcmp : CmpOf prog w A.in1 .Lt P bt) (S : Addr) (hSf : S ∉ fp) {d : Value} {s : Shared} {c : Nat} (hst : St 0 s.heap)
    (hS : s.heap.get? S = some { cls := .type "list", dict := none, data := .seq #[] c, slots := #[] })
    (hR : ∀ v h' tk, (n = 0 ∧ v = d ∨ 0 < n ∧ P (argBest bt (n - 1)) v) → (∀ b o, b ∉ wr → b ≠ S → s.heap.get? b = some o → h'.get? b = some o) → R (.ok (.ret v)) { s with heap := h', toks := tk }) :
    codeAny (model prog w) A (.builtin "min.loop" ⟨[.ref I, .none, .ref S], [("default", d)]⟩) R s := by
  have wS : S ∉ wr := fun z => hSf (W.sub _ z)
  have nm : (toString "min" ++ toString ".loop" : String) = "min.loop" := by decide
  refine codeAny_builtin F.entry_min_loop ?_; rw [Around.under_plainId F.plain_min_loop _]
  show wpAny _ A.in1 (seqItems? (.ref S) >>= _) _ _ s; refine wpAny_bind (wpAny_seqItems hS rfl ?_)
  rcases Nat.eq_zero_or_pos n with hn | hn
  · show wpAny _ A.in1 (tryCatch (pyNext (.ref I)) _ >>= _) _ _ s; refine wpAny_bind (wpAny_tryCatch (W.done s _ _ (hn.symm ▸ hst) fun h1 tk kp => ?_))
    show wpAny _ A.in1 (rule _ >>= _) _ _ _; refine wpAny_bind (wpAny_rule (wpAny_pure (hR d h1 tk (.inl ⟨hn, rfl⟩) fun b o b1 b2 e => kp b o b1 e)))
  · show wpAny _ A.in1 (tryCatch (pyNext (.ref I)) _ >>= _) _ _ s; refine wpAny_bind (wpAny_tryCatch (W.item 0 s _ _ hn hst fun v h1 tk hP st1 kp => ?_))
    have gS := kp S _ wS hS
    show wpAny _ A.in1 (updateSeq S (fun _ => #[v, v]) >>= _) _ _ _; refine wpAny_bind ?_
    refine wpAny_updateSeq gS rfl ?_; rw [nm]
    refine wpAny_pure ⟨plainId_quiet F.plain_min_loop _, min_kw W bt hcmp S hSf _ 0 _ v _ rfl hn (W.frame _ _ _ st1 fun b hf o e => ?_) hP (Heap.get?_update_self _ gS rfl) fun v' h2 tk2 hP2 kp2 => ?_⟩
    · exact (Heap.get?_update_other _ _ (fun z : S = b => hSf (z ▸ hf))).trans e
    · exact hR v' h2 tk2 (.inr ⟨hn, hP2⟩) fun b o b1 b2 e => kp2 b o b1 b2 ((Heap.get?_update_other _ _ (Ne.symm b2)).trans (kp b o b1 e))
end
section
variable {prog : Program} {w : World} {A : Around} {E : Value → Shared → Prop} {s : Shared}
theorem min_dflt {l : Addr} {vs : List Value} {ns : List Int} {d : Value} {Q : Value → Shared → Prop} (hh : A.handled = none) (hl : s.heap.IsList l vs.toArray) (hi : IntsAre vs ns)
    (h : ∀ v h' tk, (ns = [] ∧ v = d ∨ ∃ M t, v = .int M t ∧ M ∈ ns ∧ ∀ a ∈ ns, M ≤ a) → (∀ b o, s.heap.get? b = some o → h'.get? b = some o) → Q v { s with heap := h', toks := tk }) :
    wpAny (model prog w) A (call (.builtin "min") [.ref l] [("default", d)]) Q E s := by
  have nm : (toString "min" ++ toString ".loop" : String) = "min.loop" := by decide
  obtain ⟨xs, e⟩ := hi.allInts.items
  have hns : ns = xs.toList.map (·.1) := by rw [← hi.numsOf, ← nums_intItems, ← e]
  rw [e] at hl
  refine call_tree_kw F.kind_min F.plain_min F.entry_min (args_mind _ _) ?_
  show wpAny _ A.in1 (Builtin.Builtins.bindParams "min" ["key", "default"] 0 ⟨[], [("default", d)]⟩ >>= _) _ _ s
  refine wpAny_bind (wpAny_of_eq (show Builtin.Builtins.bindParams "min" ["key", "default"] 0 ⟨[], [("default", d)]⟩ = pure [none, some d] from rfl) (wpAny_bind (wpAny_pure ?_)))
  refine wpAny_bind (iter_intList hl fun s2 e2 st hfp hlI => ?_)
  have hSf : s2.heap.objs.size ∉ [s.heap.objs.size, l] := fun hm => Nat.lt_irrefl _ (hfp _ hm)
  have W := Walks.list (prog := prog) (w := w) (A := A.in1) hh s.heap.objs.size l hlI (intItems xs)
  refine wpAny_bind (wpAny_newObj_type ?_); rw [nm]
  refine wpAny_pure ⟨plainId_quiet F.plain_min_loop _, min_first W _ (CmpOf.ints_lt (numAt xs) (fun _ _ => intItems_at)) s2.heap.objs.size hSf (d := d) (W.frame _ _ _ st fun b _ o q => Heap.get?_push_of_some _ q) (Heap.get?_push_size _ rfl) fun v h1 tk hP kp => ?_⟩
  subst e2
  refine h v h1 tk ?_ (old_kept fun b o b1 q => kp b o b1 (Nat.ne_of_lt (Heap.lt_size q)) (Heap.get?_push_of_some _ q))
  have sz : (intItems xs).size = xs.size := by simp [intItems]
  rcases hP with ⟨h0, rfl⟩ | ⟨h0, hP⟩
  · refine .inl ⟨?_, rfl⟩
    rw [hns, List.map_eq_nil_iff, ← List.length_eq_zero_iff, Array.length_toList]; omega
  · obtain ⟨t, rfl⟩ := intItems_at hP
    obtain ⟨h1, h2⟩ := argBest_lt (numAt xs) ((intItems xs).size - 1)
    refine .inr ⟨_, t, rfl, ?_, fun a ha => ?_⟩
    · rw [hns, numAt_eq]; exact getD_mem (by rw [List.length_map, Array.length_toList]; omega)
    · rw [hns] at ha; obtain ⟨j, hj, rfl⟩ := mem_getD ha
      rw [List.length_map, Array.length_toList] at hj; rw [← numAt_eq]; exact h2 j (by omega)
end
section
variable {X : Cx} {K : PySem.W.Frag} {x : Str} {id : String} {e e2 : Expr} {t tk : TA} {p pos kpos : Pos}
def CallRk (X : Cx) (f : Value) (r : List V → List V → Hp → VK → Prop) : Prop :=
  ∀ (pins : List (Addr × Obj)) (s : Shared) (σ : St) (H : Hp) (xs zs : List V) (us ws : List Value) (Q : VK), Inv X pins σ H s → Vals xs us → Vals zs ws → r xs zs H Q →
    wpAny (model X.prog X.w) X.A (call f us ((["default"] : List Str).zip ws)) (EP X pins σ Q) X.xe s
def tCBk (r : List V → List V → Hp → VK → Prop) (t tk : TA) : TE := fun σ H Q => t σ H fun vs H1 => tk σ H1 fun zs H2 => r vs zs H2 Q
theorem pe_callBd {r : List V → List V → Hp → VK → Prop} (hc : CallRk X (.builtin id) r) (hg : Gl X x) (hm : X.mg x = none) (hv : bootBuiltins x = some (.builtin id)) (ha : PA X [e] t) (hkw : PK X [⟨some "default", e2, kpos⟩] tk) (hn : x ≠ "__name__" := by decide) (hdb : (x == ("__debug__" : Str)) = false := by decide)
    (he : backTo pos (starEach [e] X.env) = (false, eval e X.env) :: backTo pos (starEach [] X.env) := by rfl) : PE X (.Call (.Name x p) [e] [⟨some "default", e2, kpos⟩] pos) (tCBk r t tk) := by
  intro pins s σ H Q I h
  refine wpAny_Call_Name_kw (ld_blt I hg hm hv ?_ hn hdb)
  refine PyProof.Rows.callWith_kw (thn (ha pos pins s σ H _ I h) fun us s1 ⟨vs, H1, I1, r1, q1⟩ => ?_) he (by rw [he]; rfl)
  exact thn (hkw pos pins s1 σ H1 _ I1 q1) fun ws s2 ⟨zs, H2, I2, r2, q2⟩ => hc pins s2 σ H2 vs zs us ws Q I2 r1 r2 q2
def rMaxD (K : PySem.W.Frag) : List V → List V → Hp → VK → Prop := fun xs zs H Q => ∃ (l : Addr) (ns : List Int) (d : Int), xs = [.ref l] ∧ zs = [.int d] ∧ SqL K H l (ns.map V.int) ∧ ∀ M : Int, (ns = [] ∧ M = d ∨ M ∈ ns ∧ ∀ a ∈ ns, a ≤ M) → Q (.int M) H
def rMinD (K : PySem.W.Frag) : List V → List V → Hp → VK → Prop := fun xs zs H Q => ∃ (l : Addr) (ns : List Int) (d : Int), xs = [.ref l] ∧ zs = [.int d] ∧ SqL K H l (ns.map V.int) ∧ ∀ M : Int, (ns = [] ∧ M = d ∨ M ∈ ns ∧ ∀ a ∈ ns, M ≤ a) → Q (.int M) H
theorem call_maxD (hc : X.calm = true) (hK : X.K = K) : CallRk X (.builtin "max") (rMaxD K) := by
  subst hK
  intro pins s σ H xs zs us ws Q I r rz h
  obtain ⟨l, ns, d, rfl, rfl, hq, q⟩ := h
  obtain ⟨u, rfl, ru⟩ := vals1 r
  obtain ⟨w', rfl, t, rfl⟩ := vals1 rz
  cases ru
  obtain ⟨its, rv, pl, hz⟩ := I.list hq
  refine max_dflt (I.ok.hd hc) pl.isList (intsAre_of rv) fun v h1 tk hv kp => ?_
  rcases hv with ⟨h0, rfl⟩ | ⟨M, t', rfl, h1', h2'⟩
  · exact ⟨.int d, H, I.kept (t' := tk) kp, ⟨t, rfl⟩, q d (.inl ⟨h0, rfl⟩)⟩
  · exact ⟨.int M, H, I.kept (t' := tk) kp, ⟨t', rfl⟩, q M (.inr ⟨h1', h2'⟩)⟩
theorem call_minD (hc : X.calm = true) (hK : X.K = K) : CallRk X (.builtin "min") (rMinD K) := by
  subst hK
  intro pins s σ H xs zs us ws Q I r rz h
  obtain ⟨l, ns, d, rfl, rfl, hq, q⟩ := h
  obtain ⟨u, rfl, ru⟩ := vals1 r
  obtain ⟨w', rfl, t, rfl⟩ := vals1 rz
  cases ru
  obtain ⟨its, rv, pl, hz⟩ := I.list hq
  refine min_dflt (I.ok.hd hc) pl.isList (intsAre_of rv) fun v h1 tk hv kp => ?_
  rcases hv with ⟨h0, rfl⟩ | ⟨M, t', rfl, h1', h2'⟩
  · exact ⟨.int d, H, I.kept (t' := tk) kp, ⟨t, rfl⟩, q d (.inl ⟨h0, rfl⟩)⟩
  · exact ⟨.int M, H, I.kept (t' := tk) kp, ⟨t', rfl⟩, q M (.inr ⟨h1', h2'⟩)⟩
end
end L2
namespace L2
open PySem PySem.Spec PyProof.Rows
section
variable {X : Cx} {pins : List (Addr × Obj)} {σ : St} {H : Hp} {s : Shared} {h' : Heap} {K : PySem.W.Frag}
theorem Inv.turnedL {t' : Nat} {ch : List Addr} (I : Inv X pins σ H s) (k : ∀ b o, b ∉ ch → s.heap.get? b = some o → h'.get? b = some o) (f : ∀ b ∈ ch, FpOk X pins H b) : Inv X pins σ H { s with heap := h', toks := t' } := by
  have nit : ∀ b u, H b = some u → b ∉ ch := fun b u q z => by rw [(f b z).1] at q; cases q
  refine I.step (g' := s.gens) (d' := s.drawn) (ch := ch) (fun b hb => ⟨(f b hb).2.2.2.1, (f b hb).2.1, (f b hb).2.2.2.2.1, (f b hb).2.2.2.2.2⟩) (fun b o _ _ hc q _ => k b o hc q) (fun b o _ _ hc q _ => ⟨o.slots, k b o hc q⟩) (fun _ _ _ _ n => n)
    (fun b o hc q => ⟨o, k b o hc q⟩) (fun _ _ q => q) (fun _ _ _ q => q) (fun b ps q => ⟨#[], by rw [q]; simp⟩) (fun m hm => ?_) (fun b u q => ?_) I.bare
  · obtain ⟨o, es, ep, ho, r⟩ := hm
    exact ⟨o, es, ep, k _ o (fun z => (f _ z).2.1 rfl) ho, r⟩
  · refine (I.hok b u q).stay (fun c v hc z => k c v ?_ z) (fun _ z => z) fun _ _ z => z
    rcases hc with y | y
    · rw [y]; exact nit b u q
    · exact nit c _ y
def Itz (K : PySem.W.Frag) (a b : Addr) : It :=
  ⟨fun i H => ∃ xs ys x y, SqL K H a xs ∧ SqL K H b ys ∧ xs[i]? = some x ∧ ys[i]? = some y, fun i H v H' => ∃ t, v = .ref t ∧ H t = none ∧ ∀ xs ys x y, SqL K H a xs → SqL K H b ys → xs[i]? = some x → ys[i]? = some y → H' = upd H t (.tup [x, y]),
    fun i H => ∃ xs ys, SqL K H a xs ∧ SqL K H b ys ∧ (xs.length ≤ i ∨ ys.length ≤ i)⟩
theorem turn_zip {P : Program} {w : World} {elts : List Expr} {x1 : Nat} {pos : Pos} (a b z TI TO i1 i2 : Addr) (D : ZipApart z TI TO i1 i2 a b) : Turn P w K (.Tuple elts x1 pos) (Itz K a b) [z, TI, TO, i1, i2] z
    (fun i h => IsZip h z TI TO .none ∧ IsPair h TI (.ref i1) (.ref i2) ∧ (∃ c d, IsPair h TO c d) ∧ h.IsListIter i1 a i ∧ h.IsListIter i2 b i) where
  mem := by simp
  obj := fun i h st c hc => by
    obtain ⟨hz, h1, ⟨c1, d1, h2⟩, ⟨o1, e1, _, q1⟩, ⟨o2, e2, _, q2⟩⟩ := st
    simp only [List.mem_cons, List.not_mem_nil, or_false] at hc
    rcases hc with rfl | rfl | rfl | rfl | rfl
    · exact ⟨_, hz, fun v y => by have y' : Data.fields _ = Data.cell v := y; cases y'⟩
    · exact ⟨_, h1, fun v y => by have y' : Data.seq _ _ = Data.cell v := y; cases y'⟩
    · exact ⟨_, h2, fun v y => by have y' : Data.seq _ _ = Data.cell v := y; cases y'⟩
    · exact ⟨o1, e1, fun v y => by rw [q1] at y; cases y⟩
    · exact ⟨o2, e2, fun v y => by rw [q2] at y; cases y⟩
  keep := fun i h h' st k => by
    obtain ⟨hz, h1, ⟨c1, d1, h2⟩, h3, h4⟩ := st
    exact ⟨k z (by simp) _ hz, k TI (by simp) _ h1, ⟨c1, d1, k TO (by simp) _ h2⟩, h3.at fun o q => k i1 (by simp) o q, h4.at fun o q => k i2 (by simp) o q⟩
  item := by
    intro X hP hw hK hc i pins s σ H E I hf st hg
    subst hP hw hK
    obtain ⟨xs, ys, x, y, hqa, hqb, hx, hy⟩ := hg
    obtain ⟨itsa, rva, pa, hza⟩ := I.list hqa
    obtain ⟨itsb, rvb, pb, hzb⟩ := I.list hqb
    obtain ⟨u, hu, ru⟩ := rva.get hx
    obtain ⟨v, hv, rv⟩ := rvb.get hy
    obtain ⟨hz, h1, ⟨c1, d1, h2⟩, h3, h4⟩ := st
    have fr := I.hok.fresh (Nat.le_refl s.heap.objs.size)
    have lt : ∀ c ∈ [z, TI, TO, i1, i2], c < s.heap.objs.size := fun c hc => by
      simp only [List.mem_cons, List.not_mem_nil, or_false] at hc
      rcases hc with rfl | rfl | rfl | rfl | rfl
      · exact Heap.lt_size hz
      · exact Heap.lt_size h1
      · exact Heap.lt_size h2
      · obtain ⟨_, q, _⟩ := h3; exact Heap.lt_size q
      · obtain ⟨_, q, _⟩ := h4; exact Heap.lt_size q
    refine wpAny_pyNext_zip_item D hz h1 h2 h3 h4 pa.isList pb.isList (x := u) (y := v) (by simpa using hu) (by simpa using hv) fun h' a1 a2 a3 a4 a5 a6 hk => ⟨_, rfl, ?_⟩
    refine wpAny_letOwnedTupleGo_zip (s := { s with heap := h' }) a1 fun g2 hz2 hs2 => ?_
    have I1 : Inv X pins σ (upd H s.heap.objs.size (.tup [x, y])) { s with heap := s.heap.push { cls := .type "tuple", data := .seq #[u, v] }, toks := s.toks } :=
      I.laid (t' := s.toks) (fun b u e => Heap.get?_push_of_some _ e) (Nat.le_refl _) ⟨by simp; decide, [u, v], .cons ru (.cons rv .nil), ⟨_, Heap.get?_push_size _ rfl, rfl, _, rfl⟩⟩
    have up : ∀ c ∈ [z, TI, TO, i1, i2], upd H s.heap.objs.size (.tup [x, y]) c = none := fun c hc => by
      rw [upd_ne (Nat.ne_of_lt (lt c hc))]
      exact (hf c hc).1
    have I2 : Inv X pins σ (upd H s.heap.objs.size (.tup [x, y])) { s with heap := g2, toks := s.toks }
      := Inv.turnedL (s := { s with heap := s.heap.push { cls := .type "tuple", data := .seq #[u, v] }, toks := s.toks }) (h' := g2) (t' := s.toks) (ch := [z, TI, TO, i1, i2]) I1 (fun b o hb q => by
      simp only [List.mem_cons, List.not_mem_nil, or_false, not_or] at hb
      rw [hs2.2 b hb.1]
      by_cases c : b = s.heap.objs.size
      · subst c
        have q0 : (s.heap.push { cls := .type "tuple", data := .seq #[u, v] }).get? s.heap.objs.size = some { cls := .type "tuple", data := .seq #[u, v] } := Heap.get?_push_size _ rfl
        have q1 : (s.heap.push { cls := .type "tuple", data := .seq #[u, v] }).get? s.heap.objs.size = some o := q
        rw [q0] at q1
        cases q1
        exact a5
      · have q1 : (s.heap.push { cls := .type "tuple", data := .seq #[u, v] }).get? b = some o := q
        rw [Heap.get?_push_ne _ _ _ c] at q1
        exact hk b o hb.1 hb.2.2.1 hb.2.2.2.1 hb.2.2.2.2 q1) (fun c hc => ⟨up c hc, (hf c hc).2⟩)
    refine ⟨.ref s.heap.objs.size, _, I2, rfl, ⟨_, rfl, fr, fun xs' ys' x' y' hxa hyb hx' hy' => ?_⟩, ⟨hz2, ?_, ⟨_, _, (hs2.2 TO D.TOz).trans a2⟩, a3.at fun o q => (hs2.2 i1 D.i1z).trans q, a4.at fun o q => (hs2.2 i2 D.i2z).trans q⟩, up⟩
    · rw [I.list_inj hxa hqa, hx] at hx'
      rw [I.list_inj hyb hqb, hy] at hy'
      cases hx'
      cases hy'
      rfl
    · exact (hs2.2 TI D.TIz).trans (hk TI _ D.TIz D.TITO D.TIi1 D.TIi2 h1)
  done := by
    intro X hP hw hK hc i pins s σ H E I hf st hg
    subst hP hw hK
    obtain ⟨xs, ys, hqa, hqb, hx⟩ := hg
    obtain ⟨itsa, rva, pa, hza⟩ := I.list hqa
    obtain ⟨itsb, rvb, pb, hzb⟩ := I.list hqb
    obtain ⟨hz, h1, ⟨c1, d1, h2⟩, h3, h4⟩ := st
    have la := rva.length
    have lb := rvb.length
    refine wpAny_pyNext_zip_end (I.ok.hd hc) D hz h1 h2 h3 h4 pa.isList pb.isList (by rcases hx with y | y; exact .inl (by simp; omega); exact .inr (by simp; omega)) fun h' hk => ⟨rfl, I.turnedL (t' := s.toks) (ch := [z, TI, TO, i1, i2]) (fun b o hb e => ?_) hf⟩
    simp only [List.mem_cons, List.not_mem_nil, or_false, not_or] at hb
    exact hk b o hb.1 hb.2.2.1 hb.2.2.2.1 hb.2.2.2.2 e
  self := fun _ _ _ _ _ st h => wpAny_pyIter_zip st.1 h
def iZip (K : PySem.W.Frag) (ta : TA) : TI := fun σ H R => ta σ H fun vs H1 => ∃ a b xs ys, vs = [.ref a, .ref b] ∧ SqL K H1 a xs ∧ SqL K H1 b ys ∧ R (Itz K a b) H1
theorem pi_zip {a b : Expr} {elts : List Expr} {x1 : Nat} {tp : Pos} {ta : TA} {p pos : Pos} (hK : X.K = K) (hg : Gl X "zip") (hm : X.mg "zip" = none) (ha : PA X [a, b] ta) (hs : starEach [a, b] X.env = (false, eval a X.env) :: starEach [b] X.env := by rfl) (hs2 : (backTo pos (starEach [b] X.env)).any (·.1) = false := by rfl) : PI X (.Tuple elts x1 tp) (.Call (.Name "zip" p) [a, b] [] pos) (iZip K ta) := by
  subst hK
  intro pins s σ H R I h
  refine Call_ (ld_blt I hg hm PyProof.Rows.boot_zip (PyProof.Rows.callWith_type1 (thn (ha pos pins s σ H _ I h) fun us s1 ⟨vs, H1, I1, r1, q1⟩ => ?_) hs hs2))
  obtain ⟨l1, l2, xs, ys, rfl, hqa, hqb, q⟩ := q1
  obtain ⟨u, v, rfl, ru, rv⟩ := vals2 r1
  cases ru
  cases rv
  obtain ⟨itsa, rva, pa, hza⟩ := I1.list hqa
  obtain ⟨itsb, rvb, pb, hzb⟩ := I1.list hqb
  have la : l1 < s1.heap.objs.size := by obtain ⟨_, q, _⟩ := pa.isList; exact Heap.lt_size q
  have lb : l2 < s1.heap.objs.size := by obtain ⟨_, q, _⟩ := pb.isList; exact Heap.lt_size q
  generalize en : s1.heap.objs.size = n at la lb
  refine call_zip_2 pa.isList pb.isList fun h' g1 g2 g3 g4 g5 g6 hk => ?_
  rw [en] at g1 g2 g3 g4 g5 ⊢
  have I2 : Inv X pins σ H1 { s1 with heap := h' } := I1.kept (t' := s1.toks) hk
  refine wpAny_pyIter_zip g1 ⟨n + 4, [n + 4, n + 2, n + 3, n, n + 1], _, _, H1, rfl, I2, turn_zip l1 l2 (n + 4) (n + 2) (n + 3) n (n + 1) ?_, ⟨g1, g2, ⟨_, _, g3⟩, g4, g5⟩, fun c hb => ?_, q⟩
  · have la' : @LT.lt Nat _ l1 n := la
    have lb' : @LT.lt Nat _ l2 n := lb
    constructor <;> (intro z; exact absurd (show @Eq Nat _ _ from z) (by omega))
  · have : n ≤ c := by
      simp only [List.mem_cons, List.not_mem_nil, or_false] at hb
      rcases hb with rfl | rfl | rfl | rfl | rfl <;> omega
    exact I1.fpOk (by omega) (I1.hok.fresh (by omega))
end
section
variable {K : PySem.W.Frag} {g : TG} {tb : TS} {D : Ends} {σ : L2.St} {H : Hp} {a b : Addr} {ta : TA}
theorem tFor_z : tFor (iZip K ta) g tb D σ H ↔ ta σ H fun vs H1 => ∃ a b xs ys, vs = [.ref a, .ref b] ∧ SqL K H1 a xs ∧ SqL K H1 b ys ∧ LoopJ (Itz K a b) g tb D σ H1 := Iff.rfl
theorem loopZn {xs ys : List V} (hl : ys.length = xs.length) (Pv : Nat → L2.St → Hp → Prop) (h0 : Pv 0 σ H) (hq : ∀ i σ H, i ≤ xs.length → Pv i σ H → SqL K H a xs ∧ SqL K H b ys)
    (hs : ∀ i x y σ H t, xs[i]? = some x → ys[i]? = some y → Pv i σ H → H t = none → ∀ N : L2.St → Hp → Prop, (∀ σ' H', Pv (i + 1) σ' H' → N σ' H') → g (.ref t) σ (upd H t (.tup [x, y])) fun σ2 H2 => tb { D with nx := N, ct := N, bk := D.nx } σ2 H2) (hd : ∀ σ H, Pv xs.length σ H → D.nx σ H) : LoopJ (Itz K a b) g tb D σ H := by
  refine ⟨fun i m σ H => m = xs.length - i ∧ i ≤ xs.length ∧ Pv i σ H, ⟨_, rfl, Nat.zero_le _, h0⟩, ?_⟩
  rintro i m σ H ⟨rfl, hi, p⟩
  obtain ⟨hqa, hqb⟩ := hq i σ H hi p
  by_cases hlt : i < xs.length
  · have hx : xs[i]? = some xs[i] := List.getElem?_eq_getElem hlt
    have hy : ys[i]? = some (ys[i]'(by omega)) := List.getElem?_eq_getElem _
    refine .inr ⟨⟨xs, ys, _, _, hqa, hqb, hx, hy⟩, Pv (i + 1), fun σ' H' q => ⟨xs.length - (i + 1), by omega, rfl, hlt, q⟩, fun x H' y => ?_⟩
    obtain ⟨t, rfl, ht, y⟩ := y
    rw [y _ _ _ _ hqa hqb hx hy]
    exact hs i _ _ σ H t hx hy p ht _ fun _ _ q => q
  · obtain rfl : i = xs.length := by omega
    exact .inl ⟨⟨xs, ys, hqa, hqb, .inl (Nat.le_refl _)⟩, hd σ H p⟩
theorem tFor_t {tl : TE} : tFor (iTup K tl) g tb D σ H ↔ tl σ H fun x H1 => ∃ a, x = .ref a ∧ (∃ xs, SqT K H1 a xs) ∧ LoopJ (Itt K a) g tb D σ H1 := Iff.rfl
theorem tSeq_ifn {c : TT} {u : TS} : tSeq (tIfS c tNever tNext) u D σ H ↔ c σ H fun b H1 => if b = true then False else u D σ H1 := Iff.rfl
end
end L2
namespace Fly
open PySem
structure Left (fs ch : List Addr) (h h' : Heap) : Prop where
  keep : ∀ b o, h.get? b = some o → b ∉ fs → b ∉ ch → h'.get? b = some o
  slot : ∀ b o, h.get? b = some o → b ∈ fs → b ∉ ch → ∃ sl, h'.get? b = some { o with slots := sl }
def At (h : Heap) (e T : Addr) (cls fl : Value) : Prop :=
  T ≠ e ∧ ∃ oe vs oT ts, h.get? e = some oe ∧ oe.cls = cls ∧ oe.data = .fields vs ∧ vs[1]? = some (.ref T) ∧ h.get? T = some oT ∧ oT.data = .fields ts ∧ ts[3]? = some fl
theorem Left.trans {fs ch : List Addr} {h1 h2 h3 : Heap} (a : Left fs ch h1 h2) (b : Left fs ch h2 h3) : Left fs ch h1 h3 :=
  ⟨fun x o q n1 n2 => b.keep x o (a.keep x o q n1 n2) n1 n2, fun x o q n1 n2 => by
    obtain ⟨sl, q1⟩ := a.slot x o q n1 n2
    obtain ⟨sl2, q2⟩ := b.slot x _ q1 n1 n2
    exact ⟨sl2, q2⟩⟩
theorem Left.mono {fs fs' ch ch' : List Addr} {h h' : Heap} (a : Left fs ch h h') (hf : ∀ b ∈ fs, b ∈ fs') (hc : ∀ b ∈ ch, b ∈ ch') : Left fs' ch' h h' :=
  ⟨fun x o q n1 n2 => a.keep x o q (fun z => n1 (hf x z)) (fun z => n2 (hc x z)), fun x o q _ n2 => by
    by_cases c : x ∈ fs
    · exact a.slot x o q c fun z => n2 (hc x z)
    · exact ⟨o.slots, a.keep x o q c fun z => n2 (hc x z)⟩⟩
section
variable {M : Model} {A : Around} {E : Value → Shared → Prop} {s : Shared} {base : Heap} {env : Env} {outer : List Env} {L e : Addr}
theorem entry {oe : Obj} {vs : Array Value} {hd : Value} {nx : Bool} {Q : Unit → Shared → Prop}
    (hA : A.frames = some (env :: outer)) (hF : s.heap.FunFrames base (env :: outer)) (hL : env.frame = some L) (he : s.heap.get? e = some oe) (hv : oe.data = .fields vs) (hz : 1 < vs.size)
    (k : ∀ h' T, s.heap.get? T = none → Left ((env :: outer).filterMap (·.frame)) [e] s.heap h' → At h' e T oe.cls (rawInt L) → Q () { s with heap := h' }) :
    wpAny M A (do let fr ← frameOf env; let pl ← entryPlaceOf L nx; let en ← EntryCells.newEntry hd fr .none (rawInt L) .none pl; setField (.ref e) 1 en) Q E s := by
  have hef : e ∉ (env :: outer).filterMap (·.frame) := fun z => by
    obtain ⟨_, o, q, nf⟩ := hF.mem z
    rw [he] at q
    cases q
    exact nf vs hv
  refine wpAny_bind (wpAny_frameOf_fun hA hF hL fun h1 s1 => ?_)
  refine wpAny_bind (wpAny_entryPlaceOf fun pl ip => ?_)
  unfold EntryCells.newEntry newFields
  refine wpAny_bind (wpAny_newObj_type ?_ (ip.sizeOk5 _ _ _ _ _))
  have e1 : h1.get? e = some oe := (s1.2.1 e hef).trans he
  generalize gT : ({ cls := .type "traceback", dict := none, data := .fields ([hd, .ref L, .none, rawInt L, .none] ++ (if pl.isEmpty then List.replicate 6 Value.none else pl)).toArray } : Obj) = oT
  have e2 := Heap.get?_push_of_some (h := h1) oT e1
  refine wpAny_setField e2 hv hz (k _ h1.objs.size ?_ ?_ ?_)
  · cases q : s.heap.get? h1.objs.size with
    | none => rfl
    | some o =>
      have := Heap.lt_size q
      rw [s1.1] at this
      exact absurd this (Nat.lt_irrefl _)
  · refine ⟨fun b o q n1 n2 => ?_, fun b o q n1 n2 => ?_⟩
    · rw [Heap.get?_update_other _ _ (fun z => n2 (by rw [← z]; exact .head _))]
      exact Heap.get?_push_of_some _ ((s1.2.1 b n1).trans q)
    · obtain ⟨sl, q1⟩ := s1.2.2 b o q
      refine ⟨sl, ?_⟩
      rw [Heap.get?_update_other _ _ (fun z => n2 (by rw [← z]; exact .head _))]
      exact Heap.get?_push_of_some _ q1
  · have ne : h1.objs.size ≠ e := Nat.ne_of_gt (Heap.lt_size e1)
    have d3 := Obj.data_mapFields hv (·.setIfInBounds 1 (Value.ref h1.objs.size))
    refine ⟨ne, _, _, oT, _, Heap.get?_update_self (Obj.mapFields (·.setIfInBounds 1 (Value.ref h1.objs.size))) e2 (Obj.isFreed_of_fields d3), Obj.cls_mapFields _ _, d3, by simp [hz], ?_, by rw [← gT], by simp⟩
    rw [Heap.get?_update_other _ _ (Ne.symm ne)]
    exact Heap.get?_push_size h1 (by rw [← gT]; rfl)
theorem lands {T : Addr} {cls fl : Value} {Q : Unit → Shared → Prop} (x : At s.heap e T cls fl) (k : ∀ h', Left [] [T] s.heap h' → At h' e T cls .none → Q () { s with heap := h' }) :
    wpAny M A (setFlight (.ref e) none) Q E s := by
  obtain ⟨ne, oe, vs, oT, ts, he, hc, hv, h1, hT, ht, h3⟩ := x
  have hz : 3 < ts.size := (Array.getElem?_eq_some_iff.mp h3).1
  refine wpAny_setFlight_none he hv h1 hT ht hz (k _ ⟨fun b o q _ n => ?_, fun b _ _ z => absurd z (by simp)⟩ ?_)
  · rw [Heap.get?_update_other _ _ (fun z => n (by rw [← z]; exact .head _))]
    exact q
  · refine ⟨ne, oe, vs, _, _, ?_, hc, hv, h1, Heap.get?_update_self _ hT (Obj.isFreed_of_fields (Obj.data_mapFields ht _)), Obj.data_mapFields ht _, by simp [hz]⟩
    rw [Heap.get?_update_other _ _ ne]
    exact he
theorem leave1 {oe : Obj} {vs : Array Value} {Q : Unit → Shared → Prop}
    (hA : A.frames = some (env :: outer)) (hF : s.heap.FunFrames base (env :: outer)) (hL : env.frame = some L) (he : s.heap.get? e = some oe) (hv : oe.data = .fields vs) (h1 : vs[1]? = some .none)
    (k : ∀ h' T, s.heap.get? T = none → Left ((env :: outer).filterMap (·.frame)) [e, T] s.heap h' → At h' e T oe.cls .none → Q () { s with heap := h' }) :
    wpAny M A (leaving env (.ref e)) Q E s := by
  unfold leaving noteFrame
  simp only [hL]
  refine wpAny_bind (wpAny_bind (wpAny_field he hv h1 ?_))
  rw [if_neg (by decide)]
  refine entry hA hF hL he hv (Array.getElem?_eq_some_iff.mp h1).1 fun h' T nT l1 a1 => ?_
  refine lands (s := { s with heap := h' }) a1 fun h2 l2 a2 => k h2 T nT ?_ a2
  exact (l1.mono (fun _ z => z) (fun b z => by simp at z ⊢; exact .inl z)).trans (l2.mono (fun _ z => absurd z (by simp)) (fun b z => by simp at z ⊢; exact .inr z))
theorem noted {T : Addr} {cls : Value} {Q : Unit → Shared → Prop}
    (hA : A.frames = some (env :: outer)) (hF : s.heap.FunFrames base (env :: outer)) (hL : env.frame = some L) (x : At s.heap e T cls .none)
    (k : ∀ h' T2, s.heap.get? T2 = none → Left ((env :: outer).filterMap (·.frame)) [e, T] s.heap h' → At h' e T2 cls (rawInt L) → Q () { s with heap := h' }) :
    wpAny M A (noteFrame (.ref e) env) Q E s := by
  obtain ⟨ne, oe, vs, oT, ts, he, hc, hv, h1, hT, ht, h3⟩ := x
  subst hc
  unfold noteFrame
  simp only [hL]
  refine wpAny_bind (wpAny_field he hv h1 ?_)
  rw [if_pos (show (Value.ref T != Value.none) = true from by simp)]
  refine wpAny_bind (wpAny_field hT ht h3 ?_)
  rw [if_neg (show ¬ ((Value.none == rawInt L) = true) from by simp [rawInt])]
  refine wpAny_bind (wpAny_setField hT ht (Array.getElem?_eq_some_iff.mp h3).1 ?_)
  generalize gh : s.heap.update T (Obj.mapFields (·.setIfInBounds 3 Value.none)) = h2
  have ot : ∀ b, b ≠ T → h2.get? b = s.heap.get? b := fun b hb => by rw [← gh]; exact Heap.get?_update_other _ _ (Ne.symm hb)
  have ntT : ∀ b o, s.heap.get? b = some o → (∀ vs, o.data ≠ .fields vs) → b ≠ T := fun b o q nf z => by
    rw [z, hT] at q
    cases q
    exact nf ts ht
  refine entry (s := { s with heap := h2 }) hA (hF.of_keeps fun b o q nf => ⟨o, (ot b (ntT b o q nf)).trans q, rfl⟩) hL ((ot e (Ne.symm ne)).trans he) hv (Array.getElem?_eq_some_iff.mp h1).1 fun h' T2 n2 l a => k h' T2 ?_ ⟨fun b o q n1 n3 => ?_, fun b o q n1 n3 => ?_⟩ a
  · cases q : s.heap.get? T2 with
    | none => rfl
    | some o =>
      by_cases c : T2 = T
      · rw [c] at n2
        rw [show ({ s with heap := h2 } : Shared).heap = h2 from rfl, ← gh, Heap.get?_update_self _ hT (Obj.isFreed_of_fields (Obj.data_mapFields ht _))] at n2
        cases n2
      · have := (ot T2 c).trans q
        rw [show h2.get? T2 = none from n2] at this
        cases this
  · simp only [List.mem_cons, List.not_mem_nil, or_false, not_or] at n3
    exact l.keep b o ((ot b n3.2).trans q) n1 (by simpa using n3.1)
  · simp only [List.mem_cons, List.not_mem_nil, or_false, not_or] at n3
    exact l.slot b o ((ot b n3.2).trans q) n1 (by simpa using n3.1)
end
end Fly
namespace Fly
open PySem
abbrev Lk {α : Type} (h : Heap) (t : Sem α) (r : α) : Prop := ∀ {M : Model} {A : Around} {E : Value → Shared → Prop} {g : Array GenState} {d : Drawn} {tk : Nat} {os : OsState} {Q : α → Shared → Prop}, Q r ⟨h, g, d, tk, os⟩ → wpAny M A t Q E ⟨h, g, d, tk, os⟩
structure Cl (h : Heap) (C : Addr) : Prop where
  ga : Lk h (typeLookup (.ref C) "__getattribute__") (some (.builtin "BaseException.__getattribute__"))
  gt : Lk h (typeLookup (.ref C) "__getattr__") none
  cl : Lk h (typeLookup (.ref C) "__class__") (some (.builtin "object.__class__"))
  be : Lk h (isSubtype (.ref C) (.type "BaseException")) true
  ob : Lk h (isSubtype (.ref C) (.type "object")) true
section
variable {prog : Program} {w : World} {A : Around} {E : Value → Shared → Prop} {h : Heap} {g : Array GenState} {d : Drawn} {t : Nat} {os : OsState} {a C : Addr} {o : Obj}
theorem cls_get {R : Result → Shared → Prop} (c : Cl h C) (hx : h.get? a = some o) (hc : o.cls = .ref C) (hq : R (.ok (.ret (.ref C))) ⟨h, g, d, t, os⟩) :
    codeAny (model prog w) A (.call (.builtin "getset_descriptor.__get__") ⟨[.builtin "object.__class__", .ref a, .ref C], []⟩) R ⟨h, g, d, t, os⟩ := by
  have k5 : (⟨h, g, d, t, os⟩ : Shared).TypeIs (.builtin "object.__class__") "getset_descriptor" := F.typeOf_object_class
  have c8 : Lk h (isSubtype (.ref C) (.type (".".intercalate ("object.__class__".cutAt '.').dropLast))) true := by
    rw [F.owner_object_class]
    intro M A E g d tk os Q z
    exact c.ob z
  refine codeAny_call_builtin F.slot_gs_get.plain F.entry_gs_get (F.slot_gs_get.check _ _ _ _ _ _ _ _ k5 (F.args_gs_get _ _ _) ?_)
  repeat (any_goals (first | assumption | (with_reducible refine wpAny_loadPart_at hx ?_; rw [hc]) | with_reducible refine c8 ?_ | wp_step))
  refine ⟨Code.quiet_builtin _ (by decide +kernel), codeAny_builtin F.entry_object_class ?_⟩
  repeat (any_goals (first | assumption | (with_reducible refine wpAny_loadPart_at hx ?_; rw [hc]) | wp_step))
theorem cls_entry {tk : Tok} {Q : Fin → Shared → Prop} (c : Cl h C) (hx : h.get? a = some o) (hc : o.cls = .ref C) (hq : Q (.done (.ret (.ref C))) ⟨h, g, d, t, os⟩) :
    wpAny (model prog w) A (Builtin.«object.__getattribute__» ⟨[.ref a, .str "__class__" tk], []⟩) Q E ⟨h, g, d, t, os⟩ := by
  have k5 : (⟨h, g, d, t, os⟩ : Shared).TypeIs (.builtin "object.__class__") "getset_descriptor" := F.typeOf_object_class
  have k6 := F.typeOf_object_class
  have k7 := F.slot_gs_get.lookup
  have k8 := F.slot_gs_set.lookup
  repeat (any_goals (first | assumption | (with_reducible refine wpAny_loadPart_at hx ?_; rw [hc]) | with_reducible refine c.cl ?_ | wp_step))
  refine cls_get c hx hc ?_
  repeat (any_goals (first | assumption | wp_step))
theorem cls_check {M : Model} {nv : Value} {Q : Unit → Shared → Prop} (c : Cl h C) (hx : h.get? a = some o) (hc : o.cls = .ref C) (hq : Q () ⟨h, g, d, t, os⟩) :
    wpAny M A (checkBuiltinCall "BaseException.__getattribute__" ⟨[.ref a, nv], []⟩) Q E ⟨h, g, d, t, os⟩ := by
  have k1 : builtinKind "BaseException.__getattribute__" = some .slot := by decide +kernel
  have k2 : splitId "BaseException.__getattribute__" = some ("BaseException", "__getattribute__") := by decide +kernel
  have k3 := F.args_bexc_ga (.ref a) nv
  simp only [checkBuiltinCall, k1, k2]
  refine wpAny_bind ?_
  unfold isInstance
  repeat (first | (with_reducible refine wpAny_loadPart_at hx ?_; rw [hc]) | with_reducible refine c.be ?_ | wp_step)
  exact hq
theorem cls_call {tk : Tok} {R : Result → Shared → Prop} (c : Cl h C) (hx : h.get? a = some o) (hc : o.cls = .ref C) (hq : R (.ok (.ret (.ref C))) ⟨h, g, d, t, os⟩) :
    codeAny (model prog w) A (.call (.builtin "BaseException.__getattribute__") ⟨[.ref a, .str "__class__" tk], []⟩) R ⟨h, g, d, t, os⟩ :=
  codeAny_call_builtin F.attr_ValueError.ga.plain F.entry_bexc_ga (cls_check c hx hc (cls_entry c hx hc hq))
theorem cls_by {tk : Tok} {Q : Value → Shared → Prop} (c : Cl h C) (hx : h.get? a = some o) (hc : o.cls = .ref C) (hq : Q (.ref C) ⟨h, g, d, t, os⟩) :
    wpAny (model prog w) A (getAttrBy (.ref a) (.str "__class__" tk) false) Q E ⟨h, g, d, t, os⟩ := by
  have k3 := F.attr_ValueError.ga.bind (.ref a)
  have k4 : (Value.builtin "BaseException.__getattribute__" == Value.builtin "object.__getattribute__") = false := by decide +kernel
  have k5 : (onTheHeap (Value.ref C) && Value.builtin "BaseException.__getattribute__" == Value.builtin "object.__getattribute__") = false := by rw [k4]; rfl
  repeat (any_goals (first | assumption | (with_reducible refine wpAny_loadPart_at hx ?_; rw [hc]) | with_reducible refine c.ga ?_ | with_reducible refine c.gt ?_ | wp_step))
  refine cls_call c hx hc ?_
  repeat (any_goals (first | assumption | wp_step))
theorem cls_attr {Q : Option Value → Shared → Prop} (c : Cl h C) (hx : h.get? a = some o) (hc : o.cls = .ref C) (hq : Q (some (.ref C)) ⟨h, g, d, t + 1, os⟩) :
    wpAny (model prog w) A (getAttr? (.ref a) "__class__") Q E ⟨h, g, d, t, os⟩ := by
  unfold getAttr? getAttrBy?
  repeat (any_goals (first | assumption | with_reducible apply cls_by c hx hc | wp_step))
theorem matches_own {M : Model} {B : Addr} {cdB : ClassData} {ddB : Option Addr} {slB : Array (Option Value)} {b : Bool} {Q : Bool → Shared → Prop} (hx : h.get? a = some o) (hc : o.cls = .ref C)
    (hB : h.get? B = some { cls := .type "type", dict := ddB, data := .cls cdB, slots := slB })
    (be : Lk h (isSubtype (.ref B) (.type "BaseException")) true) (su : Lk h (isSubtype (.ref C) (.ref B)) b) (hq : Q b ⟨h, g, d, t, os⟩) : wpAny M A (excMatches (.ref a) (.ref B)) Q E ⟨h, g, d, t, os⟩ := by
  have k1 := tc_notTuple
  unfold excMatches
  cases b <;> (repeat (first | (with_reducible refine wpAny_loadPart_at hx ?_; rw [hc]) | with_reducible refine wpAny_loadPart_at hB ?_ | with_reducible refine be ?_ | with_reducible refine su ?_ | wp_step)) <;> exact hq
end
end Fly
namespace L2
open PySem PySem.Spec PyProof.Rows
section
variable {P : Program} {w : World} {H H' : Hp} {h h1 h2 : Heap} {fs fs' ch : List Addr}
theorem ObjOk.some {a : Addr} {o : HO} (x : ObjOk P w H h a o) : ∃ ob, h.get? a = some ob := by
  cases o with
  | lst xs => obtain ⟨_, _, _, _, e⟩ := x; exact ⟨_, e⟩
  | tup xs => obtain ⟨_, _, _, _, e, _⟩ := x; exact ⟨_, e⟩
  | dK kvs => obtain ⟨_, _, _, _, o, _, _, e, _⟩ := x; exact ⟨_, e⟩
  | dT kvs => obtain ⟨_, _, _, _, o, _, _, e, _⟩ := x; exact ⟨_, e⟩
  | set S n => obtain ⟨o, _, _, _, e, _⟩ := x; exact ⟨_, e⟩
  | ins C dx fs => obtain ⟨_, _, _, e, _⟩ := x; exact ⟨_, e⟩
  | own y => exact x
  | xd fs => obtain ⟨_, ⟨_, _, _, e, _⟩, _⟩ := x; exact ⟨_, e⟩
  | rng lo hi => obtain ⟨_, _, _, e⟩ := x; exact ⟨_, e⟩
  | frz ob u => obtain ⟨e, _⟩ := x; exact ⟨_, e⟩
  | tbl ps => exact ⟨_, x⟩
  | met f y => exact ⟨_, x⟩
  | ext φ => obtain ⟨_, e, _⟩ := x; exact e
theorem HOk.none_of (x : HOk P w H h) {a : Addr} (e : h.get? a = none) : H a = none := by
  cases q : H a with
  | none => rfl
  | some o =>
    obtain ⟨ob, z⟩ := (x a o q).some
    rw [e] at z
    cases z
theorem Un.left (u : Un fs [] H H' h h1) (l : Fly.Left fs' ch h1 h2) (hf : ∀ b o, h.get? b = some o → b ∈ fs' → b ∈ fs) (hc : ∀ b ∈ ch, h.get? b = none) : Un fs [] H H' h h2 := by
  have nc : ∀ b o, h.get? b = some o → b ∉ ch := fun b o q z => by rw [hc b z] at q; cases q
  refine ⟨fun b o q n n1 n2 => l.keep b o (u.keep b o q n n1 n2) (fun z => n1 (hf b o q z)) (nc b o q), fun b o q n n1 n2 => ?_, u.free, fun b o q n2 => ?_, u.tups, u.frzs, u.tbls⟩
  · obtain ⟨sl, q1⟩ := u.slot b o q n n1 n2
    by_cases c : b ∈ fs'
    · obtain ⟨sl2, q2⟩ := l.slot b _ q1 c (nc b o q)
      exact ⟨sl2, q2⟩
    · exact ⟨sl, l.keep b _ q1 c (nc b o q)⟩
  · obtain ⟨o', q1⟩ := u.there b o q n2
    by_cases c : b ∈ fs'
    · obtain ⟨sl2, q2⟩ := l.slot b _ q1 c (nc b o q)
      exact ⟨_, q2⟩
    · exact ⟨_, l.keep b _ q1 c (nc b o q)⟩
theorem HOk.left (x : HOk P w H h1) (l : Fly.Left fs' ch h1 h2) (hf : ∀ b ∈ fs', H b = none) (hc : ∀ b ∈ ch, H b = none) : HOk P w H h2 := fun b ob e => by
  have no : ∀ c, (c = b ∨ H c = Option.some (.own b)) → H c ≠ none := fun c z => by
    rcases z with rfl | z
    · rw [e]; simp
    · rw [z]; simp
  exact (x b ob e).stay (fun c v hz q => l.keep c v q (fun z => no c hz (hf c z)) fun z => no c hz (hc c z)) (fun _ q => q) fun _ _ q => q
end
def CX1 (P : Program) (w : World) : CXT := fun outer H s E x s' => ∃ (e T C : Addr) (H' : Hp), x = .ref e ∧ s'.os = s.os ∧ AllBare s'.gens ∧ Un (frs outer) [] H H' s.heap s'.heap ∧ HOk P w H' s'.heap ∧
  s.heap.get? e = none ∧ s.heap.get? T = none ∧ H' e = none ∧ H' T = none ∧ Fly.At s'.heap e T (.ref C) .none ∧ E (.ref C) none H'
section
variable {P : Program} {w : World} {K : PySem.W.Frag} {mg : Str → Option Value} {base : Heap} {N : List Str} {qual : Str} {scope : Scope} {f : Addr} {cd : Value} {A : Around} {outer : List Env} {s0 : Shared} {H0 : Hp} {E : XK}
  {pins : List (Addr × Obj)} {σ : St} {H : Hp} {s : Shared}
theorem throw_cx {e C : Addr} {args : List Value} {h' : Heap} (I : Inv (cxOf (CX1 P w) P w K mg base N qual scope f cd A outer s0 H0 E) pins σ H s) (mk : Heap.MadeExcOf s.heap h' e (.ref C) args) (q : E (.ref C) none H) :
    (cxOf (CX1 P w) P w K mg base N qual scope f cd A outer s0 H0 E).xe (.ref e) { s with heap := h' } := by
  obtain ⟨t, he, nt, ht⟩ := mk.there
  have up : ∀ b o, s0.heap.get? b = some o → ∃ o', s.heap.get? b = some o' := fun b o z => I.base.there b o z (by show b ∉ []; simp)
  have no : ∀ b, s.heap.get? b = none → s0.heap.get? b = none := fun b z => by
    cases c : s0.heap.get? b with
    | none => rfl
    | some o =>
      obtain ⟨o', c2⟩ := up b o c
      rw [z] at c2
      cases c2
  have hk : HOk P w H h' := I.hok.kept mk.keeps
  refine Fly.leave1 (s := { s with heap := h' }) (base := base) I.ok.frames (I.stack.of_keeps fun b o z _ => ⟨o, mk.keeps b o z, rfl⟩) rfl he rfl rfl fun h2 T nT l a => ?_
  have nT' : s.heap.get? T = none := by
    cases c : s.heap.get? T with
    | none => rfl
    | some o => rw [mk.keeps T o c] at nT; cases nT
  have ff : ∀ b ∈ frs (cxOf (CX1 P w) P w K mg base N qual scope f cd A outer s0 H0 E).stack, H b = none := I.stkFree
  have cc : ∀ b ∈ [e, T], H b = none := fun b z => by
    simp only [List.mem_cons, List.not_mem_nil, or_false] at z
    rcases z with rfl | rfl
    · exact I.hok.none_of mk.new
    · exact I.hok.none_of nT'
  refine ⟨e, T, C, H, rfl, I.os, I.bare, ?_, hk.left l ff cc, no e mk.new, no T nT', I.hok.none_of mk.new, I.hok.none_of nT', a, q⟩
  have u1 : Un (frs outer) [] H0 H s0.heap h' := Un.left I.base (fs' := []) (ch := []) ⟨fun b o z _ _ => mk.keeps b o z, fun b _ _ z => absurd z (by simp)⟩ (fun _ _ _ z => absurd z (by simp)) (fun _ z => absurd z (by simp))
  refine u1.left l (fun b o z m => ?_) (fun b z => ?_)
  · rcases List.mem_cons.mp (I.stkSub b m) with c | c
    · have l1 := Heap.lt_size z
      have l2 : s0.heap.objs.size ≤ _ := I.ok.above
      rw [c] at l1
      exact absurd l1 (Nat.not_lt.mpr l2)
    · exact c
  · simp only [List.mem_cons, List.not_mem_nil, or_false] at z
    rcases z with rfl | rfl
    · exact no _ mk.new
    · exact no _ nT'
end
theorem exc_obj {K : PySem.W.Frag} {h : Heap} {C : Addr} {bmB : List Value} {newId : String} (kin : K.In h) (z : PySem.W.excIn K C bmB newId = true) :
    ∃ bm ns nm qn bs hdct sn sub ab col dd k0 k1 k2 k3 k5 mN, h.get? C = some (excClassObj nm qn C ns bs bm hdct sn sub ab col dd k0 k1 k2 k3 k5 newId) ∧ h.Ns ns mN ∧ mN "__init__" = none ∧ OwnTail h bmB bm := by
  unfold PySem.W.excIn at z
  split at z
  next dd cd sl at1 =>
    split at z
    next C2 bm k0 k1 k2 k3 nn k5 em es =>
      simp only [Bool.and_eq_true, beq_iff_eq, Bool.not_eq_true'] at z
      obtain ⟨⟨⟨⟨⟨z1, z2⟩, z3⟩, z4⟩, z5⟩, z6⟩ := z
      subst z1
      subst z2
      obtain ⟨nm, bs, mro, ns, qn, hd, sn, sub, ab, col, del⟩ := cd
      dsimp only at em z3 z5 z6
      subst em
      subst z3
      obtain ⟨ll⟩ := sl
      dsimp only at es
      subst es
      exact ⟨bm, ns, nm, qn, bs, hd, sn, sub, ab, col, dd, k0, k1, k2, k3, k5, _, kin _ _ at1, .of_isNs (PySem.W.isNs_of_in kin z5), PySem.W.nsMap_none_of_in kin z5 z6, PySem.W.tail_of_in kin z4⟩
    next => cases z
  next => cases z
section
variable {X : Cx}
def tRaise (C : Addr) (E : XK) (te : TE) : TS := fun _ σ H => te σ H fun _ H1 => E (.ref C) none H1
def Throws (X : Cx) (E : XK) : Prop := ∀ (pins : List (Addr × Obj)) (σ : St) (H : Hp) (s : Shared) (e C : Addr) (args : List Value) (h' : Heap), Inv X pins σ H s → Heap.MadeExcOf s.heap h' e (.ref C) args → E (.ref C) none H → X.xe (.ref e) { s with heap := h' }
theorem throws_cx {P : Program} {w : World} {K : PySem.W.Frag} {mg : Str → Option Value} {base : Heap} {N : List Str} {qual : Str} {scope : Scope} {f : Addr} {cd : Value} {A : Around} {outer : List Env} {s0 : Shared} {H0 : Hp} {E : XK} :
    Throws (cxOf (CX1 P w) P w K mg base N qual scope f cd A outer s0 H0 E) E := fun _ _ _ _ _ _ _ _ I mk q => throw_cx I mk q
theorem ps_raise {x : Str} {C : Addr} {e : Expr} {te : TE} {E : XK} {np cpos pos : Pos} {bmB : List Value} {B newId initId : String} (hg : Gl X x) (hm : X.mg x = some (.ref C)) (hx : PySem.W.excIn X.K C bmB newId = true)
    (FB : ExcBaseFacts B newId initId bmB) (hc : X.calm = true) (th : Throws X E) (he : PE X e te) (hs : starEach [e] X.env = (false, eval e X.env) :: starEach [] X.env := by rfl) (hdb : (x == ("__debug__" : Str)) = false := by decide) :
    PS X (.Raise (some (.Call (.Name x np) [e] [] cpos)) none pos) (tRaise C E te) := by
  intro pins s σ H D I h
  obtain ⟨bm, ns, nm, qn, bs, hdct, sn, sub, ab, col, dd, k0, k1, k2, k3, k5, mN, o1, o2, o3, o4⟩ := exc_obj I.ok.mod.kin hx
  refine wpAny_Raise_call_subT (C := C) (nm := nm) (q := qn) (N := ns) (bs := bs) (bm := bm) (hdct := hdct) (sn := sn) (sub := sub) (ab := ab) (col := col) (dd := dd) (k0 := k0) (k1 := k1) (k2 := k2) (k3 := k3) (k5 := k5) FB (mN := mN) (o4.hasType FB.hasBase) (I.ok.hd hc) (by rw [hs]; rfl) o3 (ld_glob I hg hm ⟨rfl, ?_⟩ hdb)
  rw [hs]
  refine Calls.evalArgs_plain (Calls.spliced_cons (thn (he pins s σ H _ I h) fun v s1 ⟨y, H1, I1, r1, q1⟩ => Calls.spliced_nil ?_))
  exact ⟨rfl, by show 1 ≤ sizeLine; decide, I1.bk _ _ o1, o2.keeps I1.bk, o4.keeps I1.bk, fun h' e mk => th pins σ H1 s1 e C _ h' I1 mk q1⟩
abbrev Cx.pinned (X : Cx) (ps : List (Addr × Obj)) : Cx := { X with pn := X.pn ++ ps }
abbrev Cx.within (X : Cx) (ps : List (Addr × Obj)) (e : Addr) : Cx := { X with pn := X.pn ++ ps, A := X.A.mark (some (.ref e)), calm := false, xe := fun _ _ => False }
variable {pins ps : List (Addr × Obj)} {σ : St} {H : Hp} {s : Shared} {e : Addr}
theorem Inv.pin1 (I : Inv X pins σ H s) : Inv (X.pinned pins) [] σ H s :=
  ⟨⟨I.ok.mod, I.ok.kind, I.ok.glob, I.ok.blt, I.ok.above, I.ok.inj, I.ok.has, I.ok.cab, I.ok.hd, I.ok.frames, I.ok.stk, I.ok.exf, I.ok.bs, I.ok.bsz, I.ok.noex, I.ok.exfs, I.ok.funs, I.ok.frf⟩, I.os, I.bare, I.base, I.loc, I.cell, I.free, I.freeC, fun p hp => I.pin p (by simpa using hp), I.hok, I.len⟩
theorem Inv.unpin1 (I : Inv (X.pinned pins) ps σ H s) : Inv X pins σ H s :=
  ⟨⟨I.ok.mod, I.ok.kind, I.ok.glob, I.ok.blt, I.ok.above, I.ok.inj, I.ok.has, I.ok.cab, I.ok.hd, I.ok.frames, I.ok.stk, I.ok.exf, I.ok.bs, I.ok.bsz, I.ok.noex, I.ok.exfs, I.ok.funs, I.ok.frf⟩, I.os, I.bare, I.base, I.loc, I.cell, I.free, I.freeC, fun p hp => I.pin p (List.mem_append_left _ hp), I.hok, I.len⟩
theorem Inv.within (I : Inv (X.pinned pins) ps σ H s) : Inv (X.within pins e) [] σ H s :=
  ⟨⟨I.ok.mod, I.ok.kind, I.ok.glob, I.ok.blt, I.ok.above, I.ok.inj, I.ok.has, I.ok.cab, fun z => Bool.noConfusion z, I.ok.frames, I.ok.stk, I.ok.exf, I.ok.bs, I.ok.bsz, I.ok.noex, I.ok.exfs, I.ok.funs, I.ok.frf⟩, I.os, I.bare, I.base, I.loc, I.cell, I.free, I.freeC, fun p hp => I.pin p (List.mem_append_left _ (by simpa using hp)), I.hok, I.len⟩
theorem Inv.outside (I : Inv (X.within pins e) ps σ H s) (ok : X.Ok) : Inv X pins σ H s :=
  ⟨ok, I.os, I.bare, I.base, I.loc, I.cell, I.free, I.freeC, fun p hp => I.pin p (List.mem_append_left _ hp), I.hok, I.len⟩
theorem SP.unpinned {D : Ends} {f : Flow} {xe : Value → Shared → Prop} (h : SP ((X.pinned pins).wish xe) ps D f s) : SP X pins D f s := by
  cases f with
  | next => obtain ⟨σ', H', I, q⟩ := h; exact ⟨σ', H', I.unwish.unpin1, q⟩
  | brk => obtain ⟨σ', H', I, q⟩ := h; exact ⟨σ', H', I.unwish.unpin1, q⟩
  | cont => obtain ⟨σ', H', I, q⟩ := h; exact ⟨σ', H', I.unwish.unpin1, q⟩
  | ret u => obtain ⟨v, σ', H', I, r, q⟩ := h; exact ⟨v, σ', H', I.unwish.unpin1, r, q⟩
theorem goes_ok {M : Model} {A : Around} {E : Value → Shared → Prop} {i : Nat} {n : Str} {pos : Pos} {Q : Unit → Shared → Prop} (I : Inv X pins σ H s) (hN : X.N.Nodup) (hi : X.N[i]? = some n) (hk : X.env.scope.names.lookup n = some .local)
    (q : ∀ s', Inv X pins (σ.set i none) H s' → Q () s') : wpAny M A (do bindName X.env n .none; unbindBehindTheSuite X.env n pos) Q E s := by
  obtain ⟨m, hn, hl⟩ := id I.loc
  have hcls : (X.env.scope.kind == .class || (X.env.scope.kind == .module && X.env.locals != X.env.globals)) = false := by rw [I.ok.kind]; rfl
  have cne := I.cne
  have below : ∀ b o, X.s₀.heap.get? b = some o → b ≠ X.env.locals := fun b o z => Nat.ne_of_lt (Nat.lt_of_lt_of_le (Heap.lt_size z) I.ok.above)
  refine wpAny_nameGoes_keeps hk hn hcls fun h' v hn' hs => q _ ?_
  refine ⟨I.ok, I.os, I.bare, ⟨fun b o z n1 n2 n3 => (hs.2 b (below b o z)).trans (I.base.keep b o z n1 n2 n3), fun b o z n1 n2 n3 => ?_, I.base.free, fun b o z n3 => ?_, I.base.tups, I.base.frzs, I.base.tbls⟩, ⟨_, hn', fun j y v' e1 e2 e3 => ?_⟩, fun y c z => ?_, I.free, I.freeC, fun p hp => ?_, fun b ob z => ?_, by simpa using I.len⟩
  · obtain ⟨sl, z1⟩ := I.base.slot b o z n1 n2 n3
    exact ⟨sl, (hs.2 b (below b o z)).trans z1⟩
  · obtain ⟨o', z1⟩ := I.base.there b o z n3
    exact ⟨o', (hs.2 b (below b o z)).trans z1⟩
  · by_cases c : j = i
    · subst c
      rw [List.getElem?_set] at e2
      split at e2
      · split at e2 <;> cases e2
      · exact absurd rfl ‹_›
    · rw [List.getElem?_set_ne (Ne.symm c)] at e2
      obtain ⟨u', r', l⟩ := hl j y v' e1 e2 e3
      refine ⟨u', r', ?_⟩
      rcases l with ⟨k1, k2⟩ | ⟨k1, c2, k2, k3⟩
      · refine .inl ⟨k1, ?_⟩
        have : y ≠ n := fun z => c (nodup_ix hN e1 (z ▸ hi))
        simp [this, k2]
      · exact .inr ⟨k1, c2, k2, k3.sameBut hs (cne y c2 k2)⟩
  · obtain ⟨w', z1⟩ := I.cell y c z
    exact ⟨w', z1.sameBut hs (cne y c z)⟩
  · obtain ⟨z1, z2, z3, z4, z5⟩ := I.pin p hp
    exact ⟨(hs.2 p.1 z3).trans z1, z2, z3, z4, z5⟩
  · refine (I.hok b ob z).stay (fun c v hz q => (hs.2 c ?_).trans q) (fun _ q => q) fun _ _ q => q
    rintro rfl
    have fr := I.free
    rcases hz with hz | hz
    · rw [← hz, fr] at z; cases z
    · rw [fr] at hz; cases hz
abbrev XO (e C : Addr) : HO := .ext fun h => ∃ o, h.get? e = some o ∧ o.cls = .ref C
def tTry (i : Nat) (C : Addr) (tb : XK → TS) (th : TS) : TS := fun D σ H =>
  tb (fun c _ H' => c = .ref C ∧ ∀ (e : Addr) (σ' : St), σ'.length = σ.length → H' e = none →
    th { nx := fun σ2 H2 => D.nx (σ2.set i none) H2, rt := D.rt, bk := fun σ2 H2 => D.bk (σ2.set i none) H2, ct := fun σ2 H2 => D.ct (σ2.set i none) H2 } (σ'.set i (some (.ref e))) (upd H' e (XO e C))) D σ H
theorem Fly.lk {α : Type} {h : Heap} {t : Sem α} {r : α} (x : ∀ M, PySem.W.Looks M h t r) : Fly.Lk h t r := fun z => (x _).at z
theorem ps_try {i : Nat} {n x : Str} {body suite : List Stmt} {b0 : Stmt} {B C : Addr} {tb : XK → TS} {th : TS} {np hp pos : Pos} {bmB : List Value} {newId : String}
    (hN : X.N.Nodup) (hi : X.N[i]? = some n) (hl : X.env.scope.names.lookup n = some .local) (st : X.stack = X.env :: X.outer) (hf : X.env.frame = some X.env.locals)
    (hg : Gl X x) (hm : X.mg x = some (.ref B)) (xB : PySem.W.excIn X.K B bmB newId = true) (be : PySem.W.subIn X.K (.ref B) (.type "BaseException") = some true) (su : PySem.W.subIn X.K (.ref C) (.ref B) = some true)
    (hb : ∀ (pins : List (Addr × Obj)) (xe : Value → Shared → Prop) (E : XK), Passes (CX1 X.prog X.w) ((X.pinned pins).wish xe) E → PSs ((X.pinned pins).wish xe) body (tb E))
    (hs : ∀ (pins : List (Addr × Obj)) (e : Addr), PSs (X.within pins e) (b0 :: suite) th) (hdb : (x == ("__debug__" : Str)) = false := by decide) :
    PS X (.Try body [.ExceptHandler (some (.Name x np)) (some n) (b0 :: suite) hp] [] [] pos) (tTry i C tb th) := by
  intro pins s σ H D I h
  refine wpAny_Try_except ?_
  let E1 : XK := fun c _ H' => c = .ref C ∧ ∀ (e : Addr) (σ' : St), σ'.length = σ.length → H' e = none →
    th { nx := fun σ2 H2 => D.nx (σ2.set i none) H2, rt := D.rt, bk := fun σ2 H2 => D.bk (σ2.set i none) H2, ct := fun σ2 H2 => D.ct (σ2.set i none) H2 } (σ'.set i (some (.ref e))) (upd H' e (XO e C))
  let xe1 : Value → Shared → Prop := fun x s' => ∃ p1 σ1 H1 s1, Inv (X.pinned pins) p1 σ1 H1 s1 ∧ CX1 X.prog X.w X.stack H1 s1 E1 x s'
  have hp1 : Passes (CX1 X.prog X.w) ((X.pinned pins).wish xe1) E1 := fun p1 σ1 H1 s1 x s' I1 c => ⟨p1, σ1, H1, s1, I1.unwish, c⟩
  refine wpAny_mono (hb pins xe1 E1 hp1 [] s σ H D (I.pin1.wish _) h) (fun f s1 q => ?_) fun x s1 q => ?_
  · have q' := SP.unpinned q
    cases f with
    | next => exact wpAny_execs_nil q'
    | brk => exact q'
    | cont => exact q'
    | ret u => exact q'
  · obtain ⟨p1, σ1, H1, s2, I1, e, T, C', H', rfl, os, bare, U, hok, n1, n2, n3, n4, a, ec, qh⟩ := q
    cases ec
    have hst : (X.pinned pins).stack = X.env :: X.outer := st
    have J := I1.call' os U hok bare (ch := []) fun b z => absurd z (by simp)
    have no : ∀ b, s1.heap.get? b = none → s2.heap.get? b = none := fun b z => by
      cases c : s2.heap.get? b with
      | none => rfl
      | some o =>
        obtain ⟨o', c2⟩ := U.there b o c (by simp)
        rw [z] at c2
        cases c2
    refine Fly.noted (base := X.base) (L := X.env.locals) (show X.A.frames = _ from st ▸ I.ok.frames) (show s1.heap.FunFrames X.base (X.env :: X.outer) from st ▸ J.stack) hf a fun h2 T2 nT l2 a2 => ?_
    refine Fly.lands (s := { s1 with heap := h2 }) a2 fun h3 l3 a3 => ?_
    have cc : ∀ b ∈ [e, T, T2], s2.heap.get? b = none ∧ H' b = none := fun b z => by
      simp only [List.mem_cons, List.not_mem_nil, or_false] at z
      rcases z with rfl | rfl | rfl
      · exact ⟨n1, n3⟩
      · exact ⟨n2, n4⟩
      · exact ⟨no _ nT, hok.none_of nT⟩
    have l2 : Fly.Left (frs X.stack) [e, T, T2] s1.heap h2 := by
      rw [st]
      exact l2.mono (fun _ z => z) fun b z => by simp at z ⊢; rcases z with z | z <;> simp [z]
    have l3 : Fly.Left (frs X.stack) [e, T, T2] h2 h3 := l3.mono (fun _ z => absurd z (by simp)) fun b z => by simp at z ⊢; simp [z]
    have l23 := l2.trans l3
    have go : ∀ {h' : Heap} {t' : Nat}, Fly.Left (frs X.stack) [e, T, T2] s1.heap h' → Inv (X.pinned pins) p1 σ1 H' { s1 with heap := h', toks := t' } := fun {h' t'} l =>
      I1.call' (s' := { s1 with heap := h', toks := t' }) os (U.left l (fun _ _ _ z => z) fun b z => (cc b z).1) (hok.left l J.stkFree fun b z => (cc b z).2) bare (ch := []) fun b z => absurd z (by simp)
    have J3 : Inv (X.within pins e) [] σ1 H' { s1 with heap := h3 } := (go (t' := s1.toks) l23).within
    refine wpAny_handleBy_cons (codeAny_handlers_test (ld_glob J3 (x := x) hg hm ?_ hdb)) (by intro z; cases z)
    have kin := J3.kIn
    obtain ⟨bm, ns, nm, qn, bs, hdct, sn, sub, ab, col, dd, k0, k1, k2, k3, k5, mN, o1, _⟩ := exc_obj kin xB
    obtain ⟨neT, oe, vs, oT, ts, he, hc, _⟩ := id a3
    refine Fly.matches_own (C := C) (b := true) he hc o1 (Fly.lk fun M => PySem.W.looks_subIn kin be) (Fly.lk fun M => PySem.W.looks_subIn kin su) ?_
    refine codeAny_handlers_suite_as (Fly.lands (s := { s1 with heap := h3 }) a3 fun h4 l4 a4 => ?_)
    have l4 : Fly.Left (frs X.stack) [e, T, T2] s1.heap h4 := l23.trans (l4.mono (fun _ z => absurd z (by simp)) fun b z => by simp at z ⊢; simp [z])
    obtain ⟨_, oe4, _, _, _, he4, hc4, _⟩ := id a4
    have ne1 : ∀ b o, s2.heap.get? b = some o → b ≠ e := fun b o z c => by rw [c, n1] at z; cases z
    have neH : ∀ b o, H' b = some o → b ≠ e := fun b o z c => by rw [c, n3] at z; cases z
    have U4 := U.left l4 (fun _ _ _ z => z) fun b z => (cc b z).1
    have hok4 := hok.left l4 J.stkFree fun b z => (cc b z).2
    have J5 : Inv (X.pinned pins) p1 σ1 (upd H' e (XO e C)) { s1 with heap := h4 } := by
      refine I1.call' (s' := { s1 with heap := h4 }) os (H' := upd H' e (XO e C)) ⟨U4.keep, U4.slot, fun b o z m1 m2 => ?_, U4.there, fun b xs z => ?_, fun b o u z => ?_, fun b qs z => ?_⟩ (fun b ob z => ?_) bare (ch := []) fun b z => absurd z (by simp)
      · rw [upd_ne (ne1 b o z)]
        exact U4.free b o z m1 m2
      · have := U4.tups b xs z
        rw [upd_ne (neH b _ this)]
        exact this
      · have := U4.frzs b o u z
        rw [upd_ne (neH b _ this)]
        exact this
      · obtain ⟨more, this⟩ := U4.tbls b qs z
        refine ⟨more, ?_⟩
        rw [upd_ne (neH b _ this)]
        exact this
      · by_cases c : b = e
        · subst c
          rw [upd_same] at z
          cases z
          exact ⟨⟨oe4, he4, hc4⟩, ⟨oe4, he4⟩, fun g1 g2 ⟨o, z1, z2⟩ k => ⟨o, k o z1, z2⟩⟩
        · rw [upd_ne c] at z
          refine (hok4 b ob z).stay (fun _ _ _ q => q) (fun c2 q => ?_) fun c2 xs q => ?_
          · rw [upd_ne (neH c2 _ q)]
            exact q
          · rw [upd_ne (neH c2 _ q)]
            exact q
    refine store_ok (X := X.within pins e) (v := .ref e) (i := i) (x := n) J5.within hN hi (.inl hl) rfl (fun s6 I6 => ?_) (.inr hl)
    refine wpAny_mono (hs pins e [] s6 _ _ _ I6 (qh e σ1 (I1.len.trans I.len.symm) n3)) (fun f s7 q7 => ?_) fun _ _ z => z.elim
    cases f with
    | next => obtain ⟨σ7, H7, I7, d⟩ := q7; exact goes_ok (I7.outside I.ok) hN hi hl fun s8 I8 => ⟨_, _, I8, d⟩
    | brk => obtain ⟨σ7, H7, I7, d⟩ := q7; exact goes_ok (I7.outside I.ok) hN hi hl fun s8 I8 => ⟨_, _, I8, d⟩
    | cont => obtain ⟨σ7, H7, I7, d⟩ := q7; exact goes_ok (I7.outside I.ok) hN hi hl fun s8 I8 => ⟨_, _, I8, d⟩
    | ret u => obtain ⟨v, σ7, H7, I7, r, d⟩ := q7; exact goes_ok (I7.outside I.ok) hN hi hl fun s8 I8 => ⟨v, _, _, I8, r, d⟩
end
structure XKit (K : PySem.W.Frag) (C : Addr) : Prop where
  cls : ∃ bmB newId, PySem.W.excIn K C bmB newId = true
  ga : PySem.W.findIn K (.ref C) "__getattribute__" = some (some (.builtin "BaseException.__getattribute__"))
  gt : PySem.W.findIn K (.ref C) "__getattr__" = some none
  cl : PySem.W.findIn K (.ref C) "__class__" = some (some (.builtin "object.__class__"))
  be : PySem.W.subIn K (.ref C) (.type "BaseException") = some true
  ob : PySem.W.subIn K (.ref C) (.type "object") = some true
theorem XKit.look {K : PySem.W.Frag} {C : Addr} (k : XKit K C) {h : Heap} (kin : K.In h) : Fly.Cl h C :=
  ⟨Fly.lk fun M => PySem.W.looks_findIn kin k.ga, Fly.lk fun M => PySem.W.looks_findIn kin k.gt, Fly.lk fun M => PySem.W.looks_findIn kin k.cl, Fly.lk fun M => PySem.W.looks_subIn kin k.be, Fly.lk fun M => PySem.W.looks_subIn kin k.ob⟩
theorem XKit.kit {K : PySem.W.Frag} {C : Addr} (k : XKit K C) (e : Addr) : PySem.W.KitX K (.ref e) (.ref C) (fun h => ∃ o, h.get? e = some o ∧ o.cls = .ref C) where
  ty := fun M h _ ⟨o, h1, h2⟩ => h2 ▸ (PySem.W.Looks.ld h1).andThen .now
  it := fun M h kin _ => by
    obtain ⟨bmB, nw, z⟩ := k.cls
    obtain ⟨bm, ns, nm, qn, bs, hdct, sn, sub, ab, col, dd, k0, k1, k2, k3, k5, mN, o1, _⟩ := exc_obj kin z
    intro A' Q' E' s' kp q
    unfold isType loadHead
    exact wpAny_bind (wpAny_loadPart (kp _ _ o1) (wpAny_pure q))
  ne := fun h tp dd its n sl kin at1 => by
    obtain ⟨bmB, nw, z⟩ := k.cls
    obtain ⟨bm, ns, nm, qn, bs, hdct, sn, sub, ab, col, dd, k0, k1, k2, k3, k5, mN, o1, _⟩ := exc_obj kin z
    refine Bool.eq_false_iff.mpr fun q => ?_
    have e1 : C = tp := Value.ref.inj (beq_iff_eq.mp q)
    subst e1
    have z1 := congrArg Obj.data (Option.some.inj (o1.symm.trans at1))
    cases z1
  ca := fun {prog w A E Q s} kin ⟨o, h1, h2⟩ q => by
    obtain ⟨hh, g, d, t, os⟩ := s
    exact Fly.cls_attr (k.look kin) h1 h2 q
def rIsX (K : PySem.W.Frag) (C : Addr) : List V → Hp → VK → Prop := fun xs H Q => ∃ (e : Addr) (y : V) (b : Bool), xs = [.ref e, y] ∧ H e = some (XO e C) ∧
  ((∃ T : String, y = .ty T ∧ PySem.W.kitOne K (.ref C) (.type T) = some b) ∨ (∃ D : Addr, y = .ref D ∧ PySem.W.kitOne K (.ref C) (.ref D) = some b) ∨
    ∃ (tp : Addr) (Ds : List Addr), y = .ref tp ∧ H tp = some (.tup (Ds.map V.ref)) ∧ PySem.W.kitAny K (.ref C) (Ds.map Value.ref) = some b) ∧ Q (.bl b) H
theorem vals_refs : ∀ {Ds : List Addr} {us : List Value}, Vals (Ds.map V.ref) us → us = Ds.map Value.ref
  | [], _, .nil => rfl
  | D :: Ds, _, .cons r t => by
    cases (show _ = Value.ref D from r)
    rw [vals_refs t]
    rfl
theorem call_isX {X : Cx} {K : PySem.W.Frag} {C : Addr} (hK : X.K = K) (k : XKit K C) : CallR X (.builtin "isinstance") (rIsX K C) := by
  subst hK
  intro pins s σ H xs us Q I r h
  obtain ⟨e, y, b, rfl, he, hy, q⟩ := h
  obtain ⟨u, w', rfl, rx, ry⟩ := vals2 r
  cases (show u = Value.ref e from rx)
  have p : ∃ o, s.heap.get? e = some o ∧ o.cls = .ref C := (show ObjOk X.prog X.w H s.heap e (XO e C) from I.hok e _ he).1
  rcases hy with ⟨T, rfl, z⟩ | ⟨D, rfl, z⟩ | ⟨tp, Ds, rfl, ht, z⟩
  · cases (show w' = Value.type T from ry)
    exact PySem.W.kia_one (k.kit e) I.kIn p z (fun z => nomatch z) fun tk => ⟨.bl b, H, I.tok _, rfl, q⟩
  · cases (show w' = Value.ref D from ry)
    exact PySem.W.kia_one (k.kit e) I.kIn p z (fun z => nomatch z) fun tk => ⟨.bl b, H, I.tok _, rfl, q⟩
  · cases (show w' = Value.ref tp from ry)
    obtain ⟨_, its, rv, o, h1, h2, n, h3⟩ := (show ObjOk X.prog X.w H s.heap tp (.tup (Ds.map V.ref)) from I.hok tp _ ht)
    have hi := vals_refs rv
    subst hi
    obtain ⟨c, dd, dt, sl⟩ := o
    cases (show c = _ from h2)
    cases (show dt = _ from h3)
    exact PySem.W.kia_tup (k.kit e) I.kIn p h1 z (fun z => nomatch z) fun tk => ⟨.bl b, H, I.tok _, rfl, q⟩
structure CalX (P : Program) (w : World) (K : PySem.W.Frag) (mg : Str → Option Value) (base : Heap) (x : Str) (k : Nat) (ps : List Str) (sp : Sp) (f : Addr) (fd : FuncData) : Prop where
  ok : FnOk P w K mg base (CX1 P w) k f fd ps sp
  mg : mg x = some (.ref f)
  kp : PySem.W.keepIn K (.ref f) = true
  bd : Binds K fd ps []
theorem pe_calX {X : Cx} {x : Str} {p pos : Pos} {e : Expr} {es : List Expr} {t : TA} {k j : Nat} {ps : List Str} {sp : Sp} {f : Addr} {fd : FuncData} {E : XK} (C : CalX X.prog X.w X.K X.mg X.base x k ps sp f fd) (hr : Room j X.A) (hj : k ≤ j) (hg : Gl X x)
    (hp : Passes (CX1 X.prog X.w) X E) (ha : PA X (e :: es) t) (hdb : (x == ("__debug__" : Str)) = false := by decide)
    (he : starEach (e :: es) X.env = (false, eval e X.env) :: starEach es X.env := by rfl) (hpl : (backTo pos (starEach es X.env)).any (·.1) = false := by rfl) :
    PE X (.Call (.Name x p) (e :: es) [] pos) (tCall sp [] E t) := pe_call C.ok (hr.mono hj) hg C.mg C.kp C.bd .nil hp ha hdb he hpl
theorem Fun.okX {P : Program} {w : World} {K : PySem.W.Frag} {mg : Str → Option Value} {base : Heap} {CX : CXT} {x qual : Str} {st : Stmt} {f : Addr} {fd : FuncData} {N ps : List Str} {k : Nat} {sp : Sp} (F : Fun K x qual st f fd) (S : FnScope N ps (defScope st))
    (len : ∀ vs H Q E, sp vs H Q E → vs.length = ps.length)
    (hbody : ∀ (cdv : Value) (A : Around) (outer : List Env) (s : Shared) (H : Hp) (vs : List V) (Q : VK) (E : XK), Room k (A.deeper (envOfC qual (defScope st) s.heap.objs.size f cdv)) → sp vs H Q E →
      ∃ t, PSs (cxOf CX P w K mg base N qual (defScope st) f cdv A outer s H E) (defBody st) t ∧ t { nx := fun _ H' => Q .non H', rt := Q } (start N vs) H) : FnOk P w K mg base CX (k + 1) f fd ps sp := by
  obtain ⟨oc, od, kV, doc, pm, an, cdv, ct, osl, rfl, lk, hcd⟩ := F.ex
  exact fn_of lk hcd S len fun A outer s H vs Q E hr hsp => hbody cdv A outer s H vs Q E hr hsp
def sp2x (r : V → V → Hp → VK → XK → Prop) : Sp := fun vs H Q E => ∃ x y, vs = [x, y] ∧ r x y H Q E
section
variable {K : PySem.W.Frag} {C D : Addr} {b : Bool} {T : String} {cd : ClassData}
theorem kit_self : PySem.W.kitOne K (.ref C) (.ref C) = some true := by
  unfold PySem.W.kitOne
  rw [if_pos (by simp)]
theorem kit_type (m : PySem.W.kitMeta T = true) (e : PySem.W.subIn K (.ref C) (.type T) = some b) : PySem.W.kitOne K (.ref C) (.type T) = some b := by
  unfold PySem.W.kitOne
  rw [if_neg (fun z => by cases beq_iff_eq.mp z)]
  show (if PySem.W.kitMeta T = true then PySem.W.subIn K (.ref C) (.type T) else none) = some b
  rw [if_pos m, e]
theorem kit_ref (q : PySem.W.clsIn K D = some cd) (t : PySem.W.typeIn K (.ref D) = some (.type "type")) (n : (C == D) = false) (e : PySem.W.subIn K (.ref C) (.ref D) = some b) : PySem.W.kitOne K (.ref C) (.ref D) = some b := by
  unfold PySem.W.kitOne
  rw [if_neg (fun z => by have z := Value.ref.inj (beq_iff_eq.mp z); rw [z] at n; simp at n)]
  show (if ((PySem.W.clsIn K D).isSome && PySem.W.typeIn K (.ref D) == some (.type "type")) = true then PySem.W.subIn K (.ref C) (.ref D) else none) = some b
  rw [if_pos (by rw [q, t]; rfl), e]
theorem kit_no {c : Value} {r : List Value} (h : PySem.W.kitOne K (.ref C) c = some false) (h2 : PySem.W.kitAny K (.ref C) r = some b) : PySem.W.kitAny K (.ref C) (c :: r) = some b := by
  unfold PySem.W.kitAny
  rw [h]
  exact h2
end
section
variable {D : Ends} {σ : St} {H : Hp} {u : TS}
theorem tSeq_ifx {c : TT} {C : Addr} {E : XK} {te : TE} : tSeq (tIfS c (tRaise C E te) tNext) u D σ H ↔ c σ H fun b H1 => if b = true then te σ H1 (fun _ H2 => E (.ref C) none H2) else u D σ H1 := Iff.rfl
theorem tSeq_try {i : Nat} {C : Addr} {tb : XK → TS} {th : TS} : tSeq (tTry i C tb th) u D σ H ↔ tb (fun c _ H' => c = .ref C ∧ ∀ (e : Addr) (σ' : St), σ'.length = σ.length → H' e = none →
    th { nx := fun σ2 H2 => u D (σ2.set i none) H2, rt := D.rt, bk := fun σ2 H2 => D.bk (σ2.set i none) H2, ct := fun σ2 H2 => D.ct (σ2.set i none) H2 } (σ'.set i (some (.ref e))) (upd H' e (XO e C))) { D with nx := u D } σ H := Iff.rfl
end
end L2
open L2 in
local macro_rules | `(tactic| walk_at "rd") => `(tactic| simp only [tSeq_asg, tSeq_drop, tSeq_for, tSeq_while, tSeq_ifr, tIfS_ap, ite_true, ite_false, tNext, tRet, tRetN, tDrop, tAsg, gName, tVar, tC, tOp, tUn, rU, tTest, tB, tAnd, tOr, tNot, tAndV, tOrV, tNotV, tCons, tNil, tCall, tCB, tTup, tLst, tChain, tBM, tBM0, tDNewK, rIsinst, tFor_l, tFor_r1, tFor_r2, tFor_rv, tRev, tYes, sDPut, tDGet, gTup, gCons, gNil, tComp_l, tComp_r1, tComp_r2, tSl, tNoPart, tPart, gSub, tInts, tPar, tComp_t, tComp_e, tFor_z, tFor_t, tCBk, tSeq_ifn, tSeq_ifx, tSeq_try, cx_K, tyV_upd,
  rEqX_i, rNeX_i, rEqX_b, rNeX_b, rEqX_s, rNeX_s, rCatS_i, rEqL_i, rEqL_b, rEqL_s, rEqL_n, rNeL_i, rNeL_b, rNeL_s, rNeL_n, rEq_r, rNe_r, rEq_i, rNe_i, rEq_b, rNe_b, rEq_s, rNe_s, rI0_r, rI0_i, rI_i, rApp_upd,
  capSt, List.replicate_succ, List.replicate_zero, List.map_cons, List.map_nil, Option.join_some, rIn, List.append_nil, List.cons_append, List.nil_append, List.getElem?_cons_zero, List.getElem?_cons_succ, List.set_cons_zero, List.set_cons_succ, Option.some.injEq, List.cons.injEq, V.int.injEq, V.bl.injEq, V.ref.injEq, V.ty.injEq, V.str.injEq, and_true, true_and, exists_eq_left, exists_eq_left', exists_and_left, exists_eq', exists_eq, reduceCtorEq, false_and, exists_false, or_false, false_or, decide_eq_true_eq, Bool.not_eq_true', Bool.not_eq_eq_eq_not, Bool.not_true, decide_eq_false_iff_not])
namespace Zk42
open PySem L2 PyProof.Rows
def top (i : Nat) : Stmt := PySem.Challenge.pw_allhits_k42_votes_refused_and_apart.main.body.getD i (.Pass ⟨0, 0, 0, 0⟩)
structure Txt (mg : Str → Option Value) : Prop where
  n_range : mg "range" = none
  n_sorted : mg "sorted" = none
  n_set : mg "set" = none
  n_len : mg "len" = none
  n_reversed : mg "reversed" = none
  n_enumerate : mg "enumerate" = none
  n_sum : mg "sum" = none
  n_max : mg "max" = none
  n_min : mg "min" = none
  n_zip : mg "zip" = none
  n_isinstance : mg "isinstance" = none
  n_int : mg "int" = none
  n_ValueError : mg "ValueError" = none
  c_MOST_WEIGHT : ∃ t, mg "MOST_WEIGHT" = some (.int 5 t)
  c_MOST_VOTERS : ∃ t, mg "MOST_VOTERS" = some (.int 5 t)
section
variable {P : Program} {w : World} {K : PySem.W.Frag} {mg : Str → Option Value} {base : Heap}
abbrev s_names_in : Stmt := top 8
theorem sc_names_in : FnScope ["one"] ["one"] (defScope s_names_in) := ⟨rfl, rfl, rfl, by decide +kernel, rfl, by decide +kernel, by decide +kernel⟩
/-- the classes of errors, as they stand in the text -/
structure Xt (K : PySem.W.Frag) (mg : Str → Option Value) (cT cH cF cD cN cX : Addr) : Prop where
  gT : mg "TooMany" = some (.ref cT)
  gH : mg "HitError" = some (.ref cH)
  gF : mg "Full" = some (.ref cF)
  gD : mg "NoDeed" = some (.ref cD)
  gN : mg "NoFamily" = some (.ref cN)
  gX : mg "NoText" = some (.ref cX)
  xT : PySem.W.excIn K cT [.type "ValueError", .type "Exception", .type "BaseException", .type "object"] "ValueError.__new__" = true
  xH : PySem.W.excIn K cH [.type "ValueError", .type "Exception", .type "BaseException", .type "object"] "ValueError.__new__" = true
  be : PySem.W.subIn K (.ref cH) (.type "BaseException") = some true
  su : PySem.W.subIn K (.ref cT) (.ref cH) = some true
  kit : XKit K cT
  i1 : PySem.W.kitOne K (.ref cT) (.type "ValueError") = some true
  i2 : PySem.W.kitAny K (.ref cT) ([cF, cD, cN, cX].map Value.ref) = some false
def spNamesIn : Sp := sp1 fun x H Q => ∃ a : Nat, x = .int a ∧ a < 256 ∧ ∀ H' p, Same H H' → H' p = none → Q (.ref p) (upd H' p (.lst (nV (Fam.nms 8 a))))
theorem bits_nms : ∀ a : Nat, a < 256 → (List.range (Builtin.Int.intBits (a : Int))).filter (fun k => a.testBit k) = Fam.nms 8 a := by decide +kernel
theorem bits_le : ∀ a : Nat, a < 256 → Builtin.Int.intBits (a : Int) ≤ 8 := by decide +kernel
set_option maxHeartbeats 4000000 in
theorem ok_names_in {f : Addr} {fd : FuncData} (F : Fun K "names_in" "names_in" s_names_in f fd) (T : Txt mg)  : FnOk P w K mg base CX0 1 f fd ["one"] spNamesIn := by
  have sc := sc_names_in
  refine F.ok sc_names_in (fun vs H Q E h => ?_) (fun cdv A outer s H vs Q E hr h => ?_)
  · obtain ⟨_, rfl, _⟩ := h
    rfl
  · obtain ⟨x0, rfl, h⟩ := h
    refine ⟨_, (pss_one (ps_ret (pe_comp (N := ["k", "one"]) (nt := 1) (caps := [0]) comp_ok rfl (pi_range1 (by rfl) T.n_range (pa_cons (pe_bm0 PySem.F.plainAttrs_int PySem.F.slot_int_bit_length PySem.F.type_int_bit_length mt_bitlen (pv 0)) pa_nil)) (fun _ _ _ _ _ => (pg_name (i := 0) (show List.Nodup (α := Str) ["k", "one"] from by decide +kernel) rfl (Or.inl rfl))) gk_name (fun _ _ _ _ _ => (pts_one (pt_cmpR (op_eqK (K := K) rfl hr.units0) (pe_op op_and (pe_op op_shr (pv 1) (pv 0)) pe_int) pe_int (nomark _)))) (fun _ _ _ _ _ => (pv 0))))), ?_⟩
    refine rdg (σ' := [some x0]) rfl ?_
    obtain ⟨a, rfl, ha, q⟩ := h
    walk_at "rd"
    have hb := bits_le a ha
    refine ⟨by simp [tyV], by omega, by omega, ?_⟩
    rw [Int.toNat_natCast]
    refine compRs (fun k => a.testBit k) (fun k => .int (k : Nat)) (by omega) (fun k hk H1 sm R R' r1 r2 => ?_) fun H1 p sm hp => ?_
    · walk_at "rd"
      refine ⟨by omega, ite_iff shr_iff (fun hc => r1 hc _ (Same.refl _)) fun hc => r2 hc _ (Same.refl _)⟩
    · rw [nV_range, bits_nms a ha]
      exact q H1 p sm hp
abbrev s_holds : Stmt := top 9
theorem sc_holds : FnScope ["one", "other"] ["one", "other"] (defScope s_holds) := ⟨rfl, rfl, rfl, by decide +kernel, rfl, by decide +kernel, by decide +kernel⟩
def spHolds : Sp := sp2 fun x y H Q => ∃ a b : Nat, x = .int a ∧ y = .int b ∧ Q (.bl (decide (Fam.sub b a))) H
set_option maxHeartbeats 4000000 in
theorem ok_holds {f : Addr} {fd : FuncData} (F : Fun K "holds" "holds" s_holds f fd) (T : Txt mg)  : FnOk P w K mg base CX0 1 f fd ["one", "other"] spHolds := by
  have sc := sc_holds
  refine F.ok sc_holds (fun vs H Q E h => ?_) (fun cdv A outer s H vs Q E hr h => ?_)
  · obtain ⟨_, _, rfl, _⟩ := h
    rfl
  · obtain ⟨x0, x1, rfl, h⟩ := h
    refine ⟨_, (pss_one (ps_ret (pe_cmpR (op_eqK (K := K) rfl hr.units0) (pe_op op_and (pv 0) (pv 1)) (pv 1) (nomark _)))), ?_⟩
    refine rdg (σ' := [some x0, some x1]) rfl ?_
    obtain ⟨a, b, rfl, rfl, q⟩ := h
    walk_at "rd"
    rw [and_nat, show decide (((a &&& b : Nat) : Int) = (b : Int)) = decide (Fam.sub b a) from decide_eq_decide.mpr (by unfold Fam.sub; omega)]
    exact q
abbrev s_meets : Stmt := top 10
theorem sc_meets : FnScope ["one", "other"] ["one", "other"] (defScope s_meets) := ⟨rfl, rfl, rfl, by decide +kernel, rfl, by decide +kernel, by decide +kernel⟩
def spMeets : Sp := sp2 fun x y H Q => ∃ a b : Nat, x = .int a ∧ y = .int b ∧ Q (.bl (decide (Fam.mt a b))) H
set_option maxHeartbeats 4000000 in
theorem ok_meets {f : Addr} {fd : FuncData} (F : Fun K "meets" "meets" s_meets f fd) (T : Txt mg)  : FnOk P w K mg base CX0 1 f fd ["one", "other"] spMeets := by
  have sc := sc_meets
  refine F.ok sc_meets (fun vs H Q E h => ?_) (fun cdv A outer s H vs Q E hr h => ?_)
  · obtain ⟨_, _, rfl, _⟩ := h
    rfl
  · obtain ⟨x0, x1, rfl, h⟩ := h
    refine ⟨_, (pss_one (ps_ret (pe_cmpR (op_neK (K := K) rfl hr.units0) (pe_op op_and (pv 0) (pv 1)) pe_int (nomark _)))), ?_⟩
    refine rdg (σ' := [some x0, some x1]) rfl ?_
    obtain ⟨a, b, rfl, rfl, q⟩ := h
    walk_at "rd"
    rw [and_nat, show (!decide (((a &&& b : Nat) : Int) = 0)) = decide (Fam.mt a b) from by
      rw [← decide_not]
      exact decide_eq_decide.mpr (by unfold Fam.mt; omega)]
    exact q
abbrev s_rest : Stmt := top 11
theorem sc_rest : FnScope ["many", "one", "whole_ground"] ["many", "one"] (defScope s_rest) := ⟨rfl, rfl, rfl, by decide +kernel, rfl, by decide +kernel, by decide +kernel⟩
def spRest : Sp := sp2 fun x y H Q => ∃ m a : Nat, x = .int m ∧ y = .int a ∧ m ≤ 8 ∧ a < 2 ^ m ∧ Q (.int (Fam.rst m a : Nat)) H
theorem rest_eq {m a : Nat} (h : a < 2 ^ m) : Builtin.bitAnd (1 * 2 ^ (m : Int).toNat - 1) (Builtin.bitNot a) = ((Fam.rst m a : Nat) : Int) := by
  rw [Int.one_mul, Int.toNat_natCast, pow_cast, bitAnd_not]
  have e : (((2 ^ m : Nat) : Int) - 1) = ((2 ^ m - 1 : Nat) : Int) := by have := Nat.two_pow_pos m; omega
  rw [e, and_nat, Nat.and_comm, Nat.and_two_pow_sub_one_eq_mod, Nat.mod_eq_of_lt h]
  unfold Fam.rst
  omega
set_option maxHeartbeats 4000000 in
theorem ok_rest {f : Addr} {fd : FuncData} (F : Fun K "rest" "rest" s_rest f fd) (T : Txt mg)  : FnOk P w K mg base CX0 1 f fd ["many", "one"] spRest := by
  have sc := sc_rest
  refine F.ok sc_rest (fun vs H Q E h => ?_) (fun cdv A outer s H vs Q E hr h => ?_)
  · obtain ⟨_, _, rfl, _⟩ := h
    rfl
  · obtain ⟨x0, x1, rfl, h⟩ := h
    refine ⟨_, (pss_cons (ps_set (i := 2) sc.nd rfl (Or.inl rfl) (pe_op op_sub (pe_op op_shl pe_int (pv 0)) pe_int))
      (pss_one (ps_ret (pe_op op_and (pv 2) (pe_un un_inv (pv 1)))))), ?_⟩
    refine rdg (σ' := [some x0, some x1, none]) rfl ?_
    obtain ⟨m, a, rfl, rfl, hm, ha, q⟩ := h
    walk_at "rd"
    refine ⟨cpow_of (by omega) (by omega) (by decide) (by decide), ?_⟩
    rw [rest_eq ha]
    exact q
abbrev s_says : Stmt := top 14
theorem sc_says : FnScope ["family", "one", "other"] ["family", "one"] (defScope s_says) := ⟨rfl, rfl, rfl, by decide +kernel, rfl, by decide +kernel, by decide +kernel⟩
def spSays (K : PySem.W.Frag) : Sp := sp2 fun x y H Q => ∃ (p : Addr) (fs : List Nat) (a : Nat), x = .ref p ∧ SqL K H p (nV fs) ∧ y = .int a ∧ Q (.bl (Fam.sayP fs a)) H
theorem any_all {α : Type} {fs : List α} {f : α → Bool} {i : Nat} {b : α} (h : fs[i]? = some b) (hb : f b = true) : fs.any f = true := List.any_eq_true.mpr ⟨b, List.mem_of_getElem? h, hb⟩
theorem any_take {α : Type} {fs : List α} {f : α → Bool} {i : Nat} {b : α} (h : fs[i]? = some b) (h0 : (fs.take i).any f = false) (hb : f b = false) : (fs.take (i + 1)).any f = false := by
  rw [List.take_add_one, h, List.any_append, h0]
  simpa using hb
set_option maxHeartbeats 4000000 in
theorem ok_says {f : Addr} {fd : FuncData} (F : Fun K "says" "says" s_says f fd) (T : Txt mg) {f_holds : Addr} {fd_holds : FuncData} (C_holds : Cal P w K mg base "holds" 1 ["one", "other"] spHolds f_holds fd_holds) : FnOk P w K mg base CX0 2 f fd ["family", "one"] (spSays K) := by
  have sc := sc_says
  refine F.ok sc_says (fun vs H Q E h => ?_) (fun cdv A outer s H vs Q E hr h => ?_)
  · obtain ⟨_, _, rfl, _⟩ := h
    rfl
  · obtain ⟨x0, x1, rfl, h⟩ := h
    refine ⟨_, (pss_cons (ps_for PassesOwn.never rfl (pi_list (pv 0)) (pg_name (i := 2) sc.nd rfl (Or.inl rfl)) (pss_one (ps_if (pt_val (pe_cal C_holds hr (by decide) (by rfl) (pa_cons (pv 1) (pa_cons (pv 2) pa_nil)))) (pss_one (ps_ret pe_bl)) pss_nil)))
      (pss_one (ps_ret pe_bl))), ?_⟩
    refine rdg (σ' := [some x0, some x1, none]) rfl ?_
    obtain ⟨p, fs, a, rfl, hq, rfl, q⟩ := h
    walk_at "rd"
    refine ⟨⟨_, hq⟩, loopNn (fun i σ H' => ∃ v, σ = [some (.ref p), some (.int a), v] ∧ H' = H ∧ (fs.take i).any (fun b => decide (Fam.sub b a)) = false) ⟨none, rfl, rfl, rfl⟩ (fun i σ H' _ ⟨v, _, e, _⟩ => e ▸ hq) ?_ ?_⟩
    · rintro i b σ H' hb ⟨v, rfl, rfl, h0⟩ N hN
      (try walk_at "rd")
      refine ⟨_, _, rfl, a, b, rfl, rfl, _, rfl, ite_of (fun hc => ?_) fun hc => hN _ _ ⟨_, rfl, rfl, any_take hb h0 hc⟩⟩
      rw [show Fam.sayP fs a = true from any_all hb hc] at q
      exact q
    · rintro σ H' ⟨v, rfl, rfl, h0⟩
      rw [List.take_length] at h0
      rw [show Fam.sayP fs a = false from h0] at q
      exact q
abbrev s_least : Stmt := top 13
theorem sc_least : FnScope ["some", "found", "one"] ["some"] (defScope s_least) := ⟨rfl, rfl, rfl, by decide +kernel, rfl, by decide +kernel, by decide +kernel⟩
def spLeast (K : PySem.W.Frag) : Sp := sp1 fun x H Q => ∃ (p : Addr) (fs : List Nat), x = .ref p ∧ SqL K H p (nV fs) ∧ fs.length ≤ 63 ∧ ∀ H' p', H p' = none → Same H H' → H' p' = some (.lst (nV (Fam.mins (sd fs)))) → Q (.ref p') H'
theorem sd_len (fs : List Nat) {ms : List Int} (m1 : ms.Perm (dedup (nI fs))) (m2 : ms.Pairwise (· ≤ ·)) : (sd fs).length ≤ fs.length := by
  have := m1.length_eq
  rw [sorted_sd m1 m2] at this
  have h2 := dedup_len (nI fs)
  simp at this h2
  omega
set_option maxHeartbeats 4000000 in
theorem ok_least {f : Addr} {fd : FuncData} (F : Fun K "least" "least" s_least f fd) (T : Txt mg) {f_says : Addr} {fd_says : FuncData} (C_says : Cal P w K mg base "says" 2 ["family", "one"] (spSays K) f_says fd_says) : FnOk P w K mg base CX0 3 f fd ["some"] (spLeast K) := by
  have sc := sc_least
  refine F.ok sc_least (fun vs H Q E h => ?_) (fun cdv A outer s H vs Q E hr h => ?_)
  · obtain ⟨_, rfl, _⟩ := h
    rfl
  · obtain ⟨x0, rfl, h⟩ := h
    refine ⟨_, (pss_cons (ps_set (i := 1) sc.nd rfl (Or.inl rfl) (pe_lst pa_nil))
      (pss_cons (ps_for PassesOwn.never rfl (pi_list (pe_callB (call_sortX (P := P) (w := w) (K := K) rfl rfl rfl rfl) (by rfl) T.n_sorted PyProof.Rows.boot_sorted (pa_cons (pe_callTy (call_setK (P := P) (w := w) (K := K) rfl rfl rfl rfl) (by rfl) T.n_set PyProof.Rows.boot_set (pa_cons (pv 0) pa_nil)) pa_nil))) (pg_name (i := 2) sc.nd rfl (Or.inl rfl)) (pss_one (ps_if (pt_not (pt_val (pe_cal C_says hr (by decide) (by rfl) (pa_cons (pv 1) (pa_cons (pv 2) pa_nil))))) (pss_one (ps_expr (pe_bm PySem.F.plainAttrs_list PySem.F.slot_list_append PySem.F.type_list_append mt_append (pv 1) (pa_cons (pv 2) pa_nil)))) pss_nil)))
      (pss_one (ps_ret (pv 1))))), ?_⟩
    refine rdg (σ' := [some x0, none, none]) rfl ?_
    obtain ⟨p, fs, rfl, hq, hl, q⟩ := h
    walk_at "rd"
    refine ⟨small5 (by simp), fun p0 hp0 => ?_⟩
    generalize g0 : upd H p0 _ = G0
    have a0 := new_at g0
    have t0 := new_sm g0 hp0
    refine ⟨p, _, rfl, t0.seq hq, by simp; omega, fun p1 hp1 => ?_⟩
    generalize g1 : upd G0 p1 _ = G1
    have a1 := new_at g1
    have t1 := t0.trans (new_sm g1 hp1)
    have n01 := ne_new hp1 a0
    have a0 := new_sm g1 hp1 _ _ a0
    refine ⟨p1, _, rfl, .inr a1, Nat.le_trans (dedup_len _) (by simp; omega), fun p2 ms hp2 m1 m2 => ?_⟩
    have lsd := sd_len fs m1 m2
    rw [sorted_sd m1 m2]
    generalize g2 : upd G1 p2 _ = G2
    have a2 := new_at g2
    have t2 := t1.trans (new_sm g2 hp2)
    have n02 := ne_new hp2 a0
    have a0 := new_sm g2 hp2 _ _ a0
    refine ⟨p2, rfl, ⟨_, SqL.of a2⟩, ?_⟩
    refine loopNn (fs := sd fs) (fun i σ H3 => ∃ v, σ = [some (.ref p), some (.ref p0), v] ∧ H3 = upd G2 p0 (.lst (nV (Fam.pick (fun _ => true) ((sd fs).take i))))) ⟨none, rfl, ?_⟩ ?_ ?_ ?_
    · exact upd_self a0
    · rintro i σ H3 hi ⟨v, rfl, rfl⟩
      exact SqL.of (by rw [upd_ne (Ne.symm n02)]; exact a2)
    · rintro i b σ H3 hbi ⟨v, rfl, rfl⟩ N hN
      have hlen : (Fam.pick (fun _ => true) ((sd fs).take i)).length ≤ 1000 := Nat.le_trans (Fam.pick_len _ _) (by rw [List.length_take]; omega)
      have es : (sd fs).take (i + 1) = (sd fs).take i ++ [b] := by rw [List.take_add_one, hbi]; rfl
      have fin : ∀ L, Fam.pick (fun _ => true) ((sd fs).take (i + 1)) = L → N [some (.ref p), some (.ref p0), some (.int b)] (upd G2 p0 (.lst (nV L))) := fun L e => hN _ _ ⟨_, rfl, by rw [e]⟩
      rw [es, Fam.pick_snoc] at fin
      generalize Fam.pick (fun _ => true) ((sd fs).take i) = L at fin hlen ⊢
      (try walk_at "rd")
      refine ⟨_, _, rfl, p0, L, b, rfl, SqL.of upd_same, rfl, ?_⟩
      (try walk_at "rd")
      cases hs : Fam.sayP L b with
      | true =>
        rw [if_neg (by decide)]
        exact fin L (by rw [if_neg]; rw [show (L.any fun c => decide (Fam.sub c b)) = true from hs]; decide)
      | false =>
        rw [if_pos rfl]
        refine ⟨small5' (by rw [nV_len]; omega), ?_⟩
        rw [nV_snoc]
        exact fin (L ++ [b]) (by rw [if_pos]; rw [show (L.any fun c => decide (Fam.sub c b)) = false from hs]; decide)
    · rintro σ H3 ⟨v, rfl, rfl⟩
      rw [List.take_length]
      (try walk_at "rd")
      exact q _ p0 hp0 (t2.upd hp0) upd_same
abbrev s_rests : Stmt := top 15
theorem sc_rests : FnScope ["many", "family"] ["many", "family"] (defScope s_rests) := ⟨rfl, rfl, rfl, by decide +kernel, rfl, by decide +kernel, by decide +kernel⟩
theorem rsL_rise {m : Nat} {fs : List Nat} (hr : fs.Pairwise (· < ·)) (hb : ∀ b ∈ fs, b < 2 ^ m) : (Fam.rsts m fs).Pairwise (· < ·) := by
  unfold Fam.rsts
  rw [List.pairwise_reverse, List.pairwise_map]
  refine List.Pairwise.imp_of_mem (fun {a b} ha hb2 h => ?_) hr
  have := hb a ha
  have := hb b hb2
  unfold Fam.rst
  omega
theorem rsL_lt {m : Nat} {fs : List Nat} : ∀ b ∈ Fam.rsts m fs, b < 2 ^ m := fun b hb => by
  unfold Fam.rsts at hb
  obtain ⟨a, _, rfl⟩ := List.mem_map.mp (List.mem_reverse.mp hb)
  exact Fam.rst_lt m a
theorem rsL_Fam.rsts {m : Nat} {fs : List Nat} (hb : ∀ b ∈ fs, b < 2 ^ m) : Fam.rsts m (Fam.rsts m fs) = fs := by
  unfold Fam.rsts
  rw [List.map_reverse, List.reverse_reverse, List.map_map]
  conv => rhs; rw [← List.map_id fs]
  exact List.map_congr_left fun b h => Fam.rst_rst (hb b h)
theorem rsL_sd {m : Nat} {fs : List Nat} (hr : fs.Pairwise (· < ·)) (hb : ∀ b ∈ fs, b < 2 ^ m) : sd (fs.map (Fam.rst m)) = Fam.rsts m fs := (sd_eq (rsL_rise hr hb) fun x => by unfold Fam.rsts; rw [List.mem_reverse]).symm
def spRests (K : PySem.W.Frag) : Sp := sp2 fun x y H Q => ∃ (m : Nat) (p : Addr) (fs : List Nat), x = .int m ∧ m ≤ 8 ∧ y = .ref p ∧ SqL K H p (nV fs) ∧ fs.Pairwise (· < ·) ∧ (∀ b ∈ fs, b < 2 ^ m) ∧ fs.length ≤ 63 ∧
  ∀ H' p', H p' = none → Same H H' → H' p' = some (.lst (nV (Fam.rsts m fs))) → Q (.ref p') H'
set_option maxHeartbeats 4000000 in
theorem ok_rests {f : Addr} {fd : FuncData} (F : Fun K "rests" "rests" s_rests f fd) (T : Txt mg) {f_rest : Addr} {fd_rest : FuncData} (C_rest : Cal P w K mg base "rest" 1 ["many", "one"] spRest f_rest fd_rest) : FnOk P w K mg base CX0 2 f fd ["many", "family"] (spRests K) := by
  have sc := sc_rests
  refine F.ok sc_rests (fun vs H Q E h => ?_) (fun cdv A outer s H vs Q E hr h => ?_)
  · obtain ⟨_, _, rfl, _⟩ := h
    rfl
  · obtain ⟨x0, x1, rfl, h⟩ := h
    refine ⟨_, (pss_one (ps_ret (pe_callB (call_sortX (P := P) (w := w) (K := K) rfl rfl rfl rfl) (by rfl) T.n_sorted PyProof.Rows.boot_sorted (pa_cons (pe_comp (N := ["one", "many"]) (nt := 1) (caps := [0]) comp_ok rfl (pi_list (pv 1)) (fun _ _ _ _ _ => (pg_name (i := 0) (show List.Nodup (α := Str) ["one", "many"] from by decide +kernel) rfl (Or.inl rfl))) gk_name (fun _ _ _ _ _ => pts_nil) (fun _ _ _ _ _ => (pe_cal C_rest hr (by decide) (by rfl) (pa_cons (pv 1) (pa_cons (pv 0) pa_nil))))) pa_nil)))), ?_⟩
    refine rdg (σ' := [some x0, some x1]) rfl ?_
    obtain ⟨m, p, fs, rfl, hm, rfl, hq, hr, hb, hl, q⟩ := h
    walk_at "rd"
    refine ⟨⟨_, hq⟩, compNs (fun _ => true) (fun b => .int (Fam.rst m b : Nat)) hq (by omega) (fun b hbm H1 s1 R R' r1 r2 => ?_) fun H1 p1 s1 hp1 => ?_⟩
    · (try walk_at "rd")
      exact ⟨_, _, rfl, m, b, rfl, rfl, hm, hb b hbm, r1 rfl _ (Same.refl _)⟩
    have e : (fs.filter fun _ => true).map (fun b => V.int (Fam.rst m b : Nat)) = nV (fs.map (Fam.rst m)) := by
      rw [List.filter_eq_self.mpr fun _ _ => rfl]
      simp
    rw [e]
    generalize e1 : upd H1 p1 _ = H2
    have f1 := new_at e1
    have s2 := s1.trans (new_sm e1 hp1)
    refine ⟨p1, _, rfl, .inl (SqL.of f1), by simp; omega, fun l ms hl2 m1 m2 => ?_⟩
    have nd : (fs.map (Fam.rst m)).Nodup := by
      have := (rsL_rise hr hb).imp (fun {a b} (h : a < b) => Nat.ne_of_lt h)
      unfold Fam.rsts at this
      exact (List.pairwise_reverse.mp this).imp fun h => Ne.symm h
    rw [sorted_nd nd m1 m2, rsL_sd hr hb]
    exact q _ _ (old_none s2 hl2) (s2.trans (Same.new hl2)) upd_same
abbrev s_first_missed : Stmt := top 18
theorem sc_first_missed : FnScope ["family", "one", "other"] ["family", "one"] (defScope s_first_missed) := ⟨rfl, rfl, rfl, by decide +kernel, rfl, by decide +kernel, by decide +kernel⟩
def oV (o : Option Nat) : V := match o with | some b => .int (b : Nat) | none => .non
def spFirst (K : PySem.W.Frag) : Sp := sp2 fun x y H Q => ∃ (p : Addr) (fs : List Nat) (a : Nat), x = .ref p ∧ SqL K H p (nV fs) ∧ y = .int a ∧ Q (oV (fs.find? fun b => !decide (Fam.mt a b))) H
theorem find_take {fs : List Nat} {f : Nat → Bool} {i b : Nat} (h : fs[i]? = some b) (h0 : (fs.take i).find? f = none) (hb : f b = false) : (fs.take (i + 1)).find? f = none := by
  rw [List.take_add_one, h, List.find?_append, h0]
  simp [hb]
theorem find_here {fs : List Nat} {f : Nat → Bool} {i b : Nat} (h : fs[i]? = some b) (h0 : (fs.take i).find? f = none) (hb : f b = true) : fs.find? f = some b := by
  have e : fs = fs.take i ++ b :: fs.drop (i + 1) := by
    have hi := (List.getElem?_eq_some_iff.mp h).1
    have := List.take_append_drop i fs
    rw [List.drop_eq_getElem_cons hi] at this
    rw [(List.getElem?_eq_some_iff.mp h).2] at this
    exact this.symm
  rw [e, List.find?_append, h0]
  simp [hb]
set_option maxHeartbeats 4000000 in
theorem ok_first_missed {f : Addr} {fd : FuncData} (F : Fun K "first_missed" "first_missed" s_first_missed f fd) (T : Txt mg) {f_meets : Addr} {fd_meets : FuncData} (C_meets : Cal P w K mg base "meets" 1 ["one", "other"] spMeets f_meets fd_meets) : FnOk P w K mg base CX0 2 f fd ["family", "one"] (spFirst K) := by
  have sc := sc_first_missed
  refine F.ok sc_first_missed (fun vs H Q E h => ?_) (fun cdv A outer s H vs Q E hr h => ?_)
  · obtain ⟨_, _, rfl, _⟩ := h
    rfl
  · obtain ⟨x0, x1, rfl, h⟩ := h
    refine ⟨_, (pss_cons (ps_for PassesOwn.never rfl (pi_list (pv 0)) (pg_name (i := 2) sc.nd rfl (Or.inl rfl)) (pss_one (ps_if (pt_not (pt_val (pe_cal C_meets hr (by decide) (by rfl) (pa_cons (pv 1) (pa_cons (pv 2) pa_nil))))) (pss_one (ps_ret (pv 2))) pss_nil)))
      (pss_one (ps_ret pe_non))), ?_⟩
    refine rdg (σ' := [some x0, some x1, none]) rfl ?_
    obtain ⟨p, fs, a, rfl, hq, rfl, q⟩ := h
    walk_at "rd"
    refine ⟨⟨_, hq⟩, loopNn (fun i σ H' => ∃ v, σ = [some (.ref p), some (.int a), v] ∧ H' = H ∧ (fs.take i).find? (fun b => !decide (Fam.mt a b)) = none) ⟨none, rfl, rfl, rfl⟩ (fun i σ H' _ ⟨v, _, e, _⟩ => e ▸ hq) ?_ ?_⟩
    · rintro i b σ H' hb ⟨v, rfl, rfl, h0⟩ N hN
      (try walk_at "rd")
      refine ⟨_, _, rfl, a, b, rfl, rfl, _, rfl, ?_⟩
      cases hc : decide (Fam.mt a b) with
      | true =>
        rw [if_neg (by decide)]
        exact hN _ _ ⟨_, rfl, rfl, find_take hb h0 (by rw [hc]; rfl)⟩
      | false =>
        rw [if_pos rfl]
        rw [find_here hb h0 (by rw [hc]; rfl)] at q
        exact q
    · rintro σ H' ⟨v, rfl, rfl, h0⟩
      rw [List.take_length] at h0
      rw [h0] at q
      exact q
abbrev s_hits : Stmt := top 17
theorem sc_hits : FnScope ["many", "family", "found", "one"] ["many", "family"] (defScope s_hits) := ⟨rfl, rfl, rfl, by decide +kernel, rfl, by decide +kernel, by decide +kernel⟩
theorem find_hit (fs : List Nat) (a : Nat) : (fs.find? fun b => !decide (Fam.mt a b)) = none ↔ Fam.hitP fs a = true := by
  rw [List.find?_eq_none, Fam.hitP_iff]
  simp
def spHits (K : PySem.W.Frag) : Sp := sp2 fun x y H Q => ∃ (m : Nat) (p : Addr) (fs : List Nat), x = .int m ∧ m ≤ 8 ∧ y = .ref p ∧ H p = some (.lst (nV fs)) ∧ ∀ H' p', H p' = none → Same H H' → H' p' = some (.lst (nV (Fam.hits m fs))) → Q (.ref p') H'
set_option maxHeartbeats 4000000 in
theorem ok_hits {f : Addr} {fd : FuncData} (F : Fun K "hits" "hits" s_hits f fd) (T : Txt mg) {f_says : Addr} {fd_says : FuncData} (C_says : Cal P w K mg base "says" 2 ["family", "one"] (spSays K) f_says fd_says) {f_first_missed : Addr} {fd_first_missed : FuncData} (C_first_missed : Cal P w K mg base "first_missed" 2 ["family", "one"] (spFirst K) f_first_missed fd_first_missed) : FnOk P w K mg base CX0 3 f fd ["many", "family"] (spHits K) := by
  have sc := sc_hits
  refine F.ok sc_hits (fun vs H Q E h => ?_) (fun cdv A outer s H vs Q E hr h => ?_)
  · obtain ⟨_, _, rfl, _⟩ := h
    rfl
  · obtain ⟨x0, x1, rfl, h⟩ := h
    refine ⟨_, (pss_cons (ps_set (i := 2) sc.nd rfl (Or.inl rfl) (pe_lst pa_nil))
      (pss_cons (ps_for PassesOwn.never rfl (pi_range1 (by rfl) T.n_range (pa_cons (pe_op op_shl pe_int (pv 0)) pa_nil)) (pg_name (i := 3) sc.nd rfl (Or.inl rfl)) (pss_one (ps_if (PW.pt (pw_and (pt_not (pt_val (pe_cal C_says hr (by decide) (by rfl) (pa_cons (pv 2) (pa_cons (pv 3) pa_nil))))) (pw_and1 (pt_cmpR op_isP (pe_cal C_first_missed hr (by decide) (by rfl) (pa_cons (pv 1) (pa_cons (pv 3) pa_nil))) pe_non (nomark _))))) (pss_one (ps_expr (pe_bm PySem.F.plainAttrs_list PySem.F.slot_list_append PySem.F.type_list_append mt_append (pv 2) (pa_cons (pv 3) pa_nil)))) pss_nil)))
      (pss_one (ps_ret (pv 2))))), ?_⟩
    refine rdg (σ' := [some x0, some x1, none, none]) rfl ?_
    obtain ⟨m, p, fs, rfl, hm, rfl, f1, q⟩ := h
    walk_at "rd"
    rw [shl_one]
    have pp := Nat.two_pow_pos m
    have p8 : 2 ^ m ≤ 256 := Nat.pow_le_pow_right (n := 2) (by decide) hm
    refine ⟨small5 (by simp), fun p0 hp0 => ⟨cpow_of (by omega) (by omega) (by decide) (by decide), by omega, by omega, ?_⟩⟩
    rw [Int.toNat_natCast]
    generalize g0 : upd H p0 _ = G0
    have a0 := new_at g0
    have t0 := new_sm g0 hp0
    have n0 := ne_new hp0 f1
    refine loopRn (fun i σ H3 => ∃ v, σ = [some (.int m), some (.ref p), some (.ref p0), v] ∧ H3 = upd G0 p0 (.lst (nV (Fam.pick (Fam.hitP fs) (List.range i))))) ⟨_, rfl, upd_self a0⟩ ?_ ?_
    · rintro i σ H3 hi ⟨v, rfl, rfl⟩ N hN
      have hlen : (Fam.pick (Fam.hitP fs) (List.range i)).length ≤ 1000 := Nat.le_trans (Fam.pick_len _ _) (by simp; omega)
      have fin : ∀ L, Fam.pick (Fam.hitP fs) (List.range (i + 1)) = L → N [some (.int m), some (.ref p), some (.ref p0), some (.int (i : Nat))] (upd G0 p0 (.lst (nV L))) := fun L e => hN _ _ ⟨_, rfl, by rw [e]⟩
      rw [List.range_succ, Fam.pick_snoc] at fin
      generalize Fam.pick (Fam.hitP fs) (List.range i) = L at fin hlen ⊢
      have fp : upd G0 p0 (.lst (nV L)) p = some (.lst (nV fs)) := by rw [upd_ne n0]; exact t0 _ _ f1
      (try walk_at "rd")
      refine ⟨_, _, rfl, p0, L, i, rfl, SqL.of upd_same, rfl, ?_⟩
      (try walk_at "rd")
      cases hs : Fam.sayP L i with
      | true =>
        rw [if_neg (by decide)]
        exact fin L (by rw [if_neg]; rw [show (L.any fun c => decide (Fam.sub c i)) = true from hs]; simp)
      | false =>
        rw [if_pos rfl]
        refine ⟨_, _, rfl, p, fs, i, rfl, SqL.of fp, rfl, ?_⟩
        have hs' : (L.any fun c => decide (Fam.sub c i)) = false := hs
        have hf := find_hit fs i
        cases ho : (fs.find? fun b => !decide (Fam.mt i b)) with
        | none =>
          have hh := hf.mp ho
          refine ⟨rfl, ?_⟩
          rw [if_pos (show oV none = V.non from rfl)]
          refine ⟨tyV_list upd_same, rApp_upd.mpr ⟨small5' (by (try rw [nV_len]); omega), ?_⟩⟩
          rw [nV_snoc]
          exact fin (L ++ [i]) (by rw [if_pos]; rw [hs', hh]; rfl)
        | some b =>
          have hh : Fam.hitP fs i = false := by
            cases hq : Fam.hitP fs i with
            | false => rfl
            | true => rw [hf.mpr hq] at ho; cases ho
          refine ⟨rfl, ?_⟩
          rw [if_neg (by intro z; cases z)]
          exact fin L (by rw [if_neg]; rw [hs', hh]; decide)
    · rintro σ H3 ⟨v, rfl, rfl⟩
      (try walk_at "rd")
      exact q _ p0 hp0 (t0.upd hp0) upd_same
abbrev s_table_of : Stmt := top 20
theorem sc_table_of : FnScope ["many", "family"] ["many", "family"] (defScope s_table_of) := ⟨rfl, rfl, rfl, by decide +kernel, rfl, by decide +kernel, by decide +kernel⟩
def spTableOf (K : PySem.W.Frag) : Sp := sp2 fun x y H Q => ∃ (m : Nat) (p : Addr) (fs : List Nat), x = .int m ∧ m ≤ 8 ∧ y = .ref p ∧ H p = some (.lst (nV fs)) ∧ ∀ H' p', H p' = none → Same H H' → H' p' = some (.lst (bV (tab (2 ^ m) (Fam.sayP fs)))) → Q (.ref p') H'
set_option maxHeartbeats 4000000 in
theorem ok_table_of {f : Addr} {fd : FuncData} (F : Fun K "table_of" "table_of" s_table_of f fd) (T : Txt mg) {f_says : Addr} {fd_says : FuncData} (C_says : Cal P w K mg base "says" 2 ["family", "one"] (spSays K) f_says fd_says) : FnOk P w K mg base CX0 3 f fd ["many", "family"] (spTableOf K) := by
  have sc := sc_table_of
  refine F.ok sc_table_of (fun vs H Q E h => ?_) (fun cdv A outer s H vs Q E hr h => ?_)
  · obtain ⟨_, _, rfl, _⟩ := h
    rfl
  · obtain ⟨x0, x1, rfl, h⟩ := h
    refine ⟨_, (pss_one (ps_ret (pe_comp (N := ["s", "family"]) (nt := 1) (caps := [1]) comp_ok rfl (pi_range1 (by rfl) T.n_range (pa_cons (pe_op op_shl pe_int (pv 0)) pa_nil)) (fun _ _ _ _ _ => (pg_name (i := 0) (show List.Nodup (α := Str) ["s", "family"] from by decide +kernel) rfl (Or.inl rfl))) gk_name (fun _ _ _ _ _ => pts_nil) (fun _ _ _ _ _ => (pe_cal C_says hr (by decide) (by rfl) (pa_cons (pv 1) (pa_cons (pv 0) pa_nil))))))), ?_⟩
    refine rdg (σ' := [some x0, some x1]) rfl ?_
    obtain ⟨m, p, fs, rfl, hm, rfl, f1, q⟩ := h
    walk_at "rd"
    have p8 := Nat.pow_le_pow_right (n := 2) (by decide) hm; rw [show 2 ^ 8 = 256 from rfl] at p8
    have pp := Nat.two_pow_pos m
    rw [shl_one]
    refine ⟨cpow_of (by omega) (by omega) (by decide) (by decide), by omega, by omega, ?_⟩
    rw [Int.toNat_natCast]
    refine compRs (fun _ => true) (fun k => .bl (Fam.sayP fs k)) (by omega) (fun k hk H1 sm R R' r1 r2 => ?_) fun H1 p1 sm hp => ?_
    · (try walk_at "rd")
      exact ⟨_, _, rfl, p, fs, k, rfl, SqL.of (sm _ _ f1), rfl, r1 rfl _ (Same.refl _)⟩
    · rw [map_tab]
      exact q _ p1 (old_none sm hp) (sm.trans (Same.new hp)) upd_same
abbrev s_noes_by : Stmt := top 21
theorem sc_noes_by : FnScope ["many", "family"] ["many", "family"] (defScope s_noes_by) := ⟨rfl, rfl, rfl, by decide +kernel, rfl, by decide +kernel, by decide +kernel⟩
def spNoesBy (K : PySem.W.Frag) : Sp := sp2 fun x y H Q => ∃ (m : Nat) (p : Addr) (fs : List Nat), x = .int m ∧ m ≤ 5 ∧ y = .ref p ∧ H p = some (.lst (nV fs)) ∧ ∀ H' p', H p' = none → Same H H' → H' p' = some (.lst (nV (Fam.rsts m (Fam.hits m fs)))) → Q (.ref p') H'
theorem le256 {m : Nat} (hm : m ≤ 8) : 2 ^ m ≤ 256 := Nat.pow_le_pow_right (n := 2) (by decide) hm
theorem hits_len (m : Nat) (fs : List Nat) : (Fam.hits m fs).length ≤ 2 ^ m := Nat.le_trans (Fam.pick_len _ _) (by simp)
set_option maxHeartbeats 4000000 in
theorem ok_noes_by {f : Addr} {fd : FuncData} (F : Fun K "noes_by" "noes_by" s_noes_by f fd) (T : Txt mg) {f_rests : Addr} {fd_rests : FuncData} (C_rests : Cal P w K mg base "rests" 2 ["many", "family"] (spRests K) f_rests fd_rests) {f_hits : Addr} {fd_hits : FuncData} (C_hits : Cal P w K mg base "hits" 3 ["many", "family"] (spHits K) f_hits fd_hits) : FnOk P w K mg base CX0 4 f fd ["many", "family"] (spNoesBy K) := by
  have sc := sc_noes_by
  refine F.ok sc_noes_by (fun vs H Q E h => ?_) (fun cdv A outer s H vs Q E hr h => ?_)
  · obtain ⟨_, _, rfl, _⟩ := h
    rfl
  · obtain ⟨x0, x1, rfl, h⟩ := h
    refine ⟨_, (pss_one (ps_ret (pe_cal C_rests hr (by decide) (by rfl) (pa_cons (pv 0) (pa_cons (pe_cal C_hits hr (by decide) (by rfl) (pa_cons (pv 0) (pa_cons (pv 1) pa_nil))) pa_nil))))), ?_⟩
    refine rdg (σ' := [some x0, some x1]) rfl ?_
    obtain ⟨m, p, fs, rfl, hm, rfl, f1, q⟩ := h
    walk_at "rd"
    have p8 : 2 ^ m ≤ 32 := Nat.pow_le_pow_right (n := 2) (by decide) hm
    have pp := Nat.two_pow_pos m
    have hl := hits_len m fs
    refine ⟨_, _, rfl, m, p, fs, rfl, by omega, rfl, f1, fun G1 p1 hp1 t1 a1 => ?_⟩
    refine ⟨_, _, rfl, m, p1, _, rfl, by omega, rfl, SqL.of a1, Fam.hits_rise m fs, Fam.hits_lt, by omega, fun G2 p2 hp2 t2 a2 => ?_⟩
    exact q _ p2 (old_none t1 hp2) (t1.trans t2) a2
abbrev s_first_parting : Stmt := top 24
theorem sc_first_parting : FnScope ["many", "table", "x", "y", "x_alone", "y_alone", "s"] ["many", "table", "x", "y"] (defScope s_first_parting) := ⟨rfl, rfl, rfl, by decide +kernel, rfl, by decide +kernel, by decide +kernel⟩
theorem nonT {A B : Prop} [Decidable (oV none = V.non)] (h : A) : if oV none = V.non then A else B := by
  rw [if_pos (show oV none = V.non from rfl)]
  exact h
theorem nonF {b : Nat} {A B : Prop} [Decidable (oV (some b) = V.non)] (h : B) : if oV (some b) = V.non then A else B := by
  rw [if_neg (fun z => by cases z)]
  exact h
def spParting (K : PySem.W.Frag) : Sp := sp4 fun u v x y H Q => ∃ (m : Nat) (p : Addr) (f : Nat → Bool) (i j : Nat), u = .int m ∧ m ≤ 8 ∧ v = .ref p ∧ SqL K H p (bV (tab (2 ^ m) f)) ∧ x = .int i ∧ i < m ∧ y = .int j ∧ j < m ∧ Q (oV (Fam.part m f i j)) H
theorem find_no {f : Nat → Bool} {i : Nat} (h0 : (List.range i).find? f = none) (hb : f i = false) : (List.range (i + 1)).find? f = none := by
  rw [List.range_succ, List.find?_append, h0]
  simp [hb]
theorem find_yes {f : Nat → Bool} {n i : Nat} (hi : i < n) (h0 : (List.range i).find? f = none) (hb : f i = true) : (List.range n).find? f = some i := by
  obtain ⟨d, rfl⟩ : ∃ d, n = i + (1 + d) := ⟨n - i - 1, by omega⟩
  rw [List.range_add, List.find?_append, h0, Nat.add_comm 1 d, List.range_succ_eq_map]
  simp [hb]
theorem mt_two {s x y : Nat} : decide (Fam.mt s (2 ^ x ||| 2 ^ y)) = (s.testBit x || s.testBit y) := by
  rw [Bool.eq_iff_iff, decide_eq_true_eq, Fam.mt_iff, Bool.or_eq_true]
  constructor
  · rintro ⟨k, h1, h2⟩
    rw [Nat.testBit_or, Nat.testBit_two_pow, Nat.testBit_two_pow, Bool.or_eq_true, decide_eq_true_eq, decide_eq_true_eq] at h2
    rcases h2 with rfl | rfl
    · exact .inl h1
    · exact .inr h1
  · rintro (h | h)
    · exact ⟨x, h, by simp [Nat.testBit_or, Nat.testBit_two_pow]⟩
    · exact ⟨y, h, by simp [Nat.testBit_or, Nat.testBit_two_pow]⟩
set_option maxHeartbeats 4000000 in
theorem ok_first_parting {f : Addr} {fd : FuncData} (F : Fun K "first_parting" "first_parting" s_first_parting f fd) (T : Txt mg) {f_meets : Addr} {fd_meets : FuncData} (C_meets : Cal P w K mg base "meets" 1 ["one", "other"] spMeets f_meets fd_meets) : FnOk P w K mg base CX0 2 f fd ["many", "table", "x", "y"] (spParting K) := by
  have sc := sc_first_parting
  refine F.ok sc_first_parting (fun vs H Q E h => ?_) (fun cdv A outer s H vs Q E hr h => ?_)
  · obtain ⟨_, _, _, _, rfl, _⟩ := h
    rfl
  · obtain ⟨x0, x1, x2, x3, rfl, h⟩ := h
    refine ⟨_, (pss_cons (ps_set (i := 4) sc.nd rfl (Or.inl rfl) (pe_op op_shl pe_int (pv 2)))
      (pss_cons (ps_set (i := 5) sc.nd rfl (Or.inl rfl) (pe_op op_shl pe_int (pv 3)))
      (pss_cons (ps_for PassesOwn.never rfl (pi_range1 (by rfl) T.n_range (pa_cons (pe_op op_shl pe_int (pv 0)) pa_nil)) (pg_name (i := 6) sc.nd rfl (Or.inl rfl)) (pss_one (ps_if (PW.pt (pw_and (pt_not (pt_val (pe_cal C_meets hr (by decide) (by rfl) (pa_cons (pv 6) (pa_cons (pe_op op_or (pv 4) (pv 5)) pa_nil))))) (pw_and (pt_val (pe_ix (ix_K (K := K) rfl) (pv 1) (pe_op op_or (pv 6) (pv 4)) (fun _ _ => rfl))) (pw_and1 (pt_not (pt_val (pe_ix (ix_K (K := K) rfl) (pv 1) (pe_op op_or (pv 6) (pv 5)) (fun _ _ => rfl)))))))) (pss_one (ps_ret (pv 6))) pss_nil)))
      (pss_one (ps_ret pe_non))))), ?_⟩
    refine rdg (σ' := [some x0, some x1, some x2, some x3, none, none, none]) rfl ?_
    obtain ⟨m, p, f, x, y, rfl, hm, rfl, hq, rfl, hx, rfl, hy, q⟩ := h
    walk_at "rd"
    have pp := Nat.two_pow_pos m
    have p8 : 2 ^ m ≤ 256 := Nat.pow_le_pow_right (n := 2) (by decide) hm
    have px : 2 ^ x < 2 ^ m := Nat.pow_lt_pow_right (by decide) hx
    have py : 2 ^ y < 2 ^ m := Nat.pow_lt_pow_right (by decide) hy
    rw [shl_one, shl_one, shl_one]
    refine ⟨cpow_of (by omega) (by omega) (by decide) (by decide), cpow_of (by omega) (by omega) (by decide) (by decide), cpow_of (by omega) (by omega) (by decide) (by decide), by omega, by omega, ?_⟩
    rw [Int.toNat_natCast]
    refine loopRn (fun i σ H3 => ∃ v, σ = [some (.int m), some (.ref p), some (.int x), some (.int y), some (.int ((2 ^ x : Nat))), some (.int ((2 ^ y : Nat))), v] ∧ H3 = H ∧ (List.range i).find? (Fam.partP f x y) = none) ⟨none, rfl, rfl, rfl⟩ ?_ ?_
    · rintro i σ H3 hi ⟨v, rfl, rfl, h0⟩ N hN
      (try walk_at "rd")
      rw [or_nat, or_nat, or_nat]
      refine ⟨_, _, rfl, i, _, rfl, rfl, ?_⟩
      rw [mt_two]
      (try walk_at "rd")
      cases hs : (i.testBit x || i.testBit y) with
      | true =>
        rw [if_neg (by decide)]
        refine hN _ _ ⟨_, rfl, rfl, find_no h0 ?_⟩
        unfold Fam.partP
        cases e1 : i.testBit x <;> cases e2 : i.testBit y <;> simp_all
      | false =>
        rw [if_pos rfl]
        rw [Bool.or_eq_false_iff] at hs
        refine ixX_l hq (atI_tab (Nat.or_lt_two_pow hi px)) ⟨_, rfl, ite_of (fun h1 => ?_) fun h1 => hN _ _ ⟨_, rfl, rfl, find_no h0 (by unfold Fam.partP; simp [h1])⟩⟩
        refine ixX_l hq (atI_tab (Nat.or_lt_two_pow hi py)) ⟨_, rfl, ?_⟩
        cases h2 : f (i ||| 2 ^ y) with
        | true =>
          rw [if_neg (by decide)]
          refine hN _ _ ⟨_, rfl, rfl, find_no h0 ?_⟩
          unfold Fam.partP
          simp [h2]
        | false =>
          rw [if_pos rfl]
          rw [show Fam.part m f x y = some i from find_yes hi h0 (by unfold Fam.partP; rw [hs.1, hs.2, h1, h2]; rfl)] at q
          exact q
    · rintro σ H3 ⟨v, rfl, rfl, h0⟩
      rw [show Fam.part m f x y = none from h0] at q
      exact q
abbrev s_compared_in : Stmt := top 23
theorem sc_compared_in : FnScope ["many", "table", "x", "y", "s", "t"] ["many", "table", "x", "y"] (defScope s_compared_in) := ⟨rfl, rfl, rfl, by decide +kernel, rfl, by decide +kernel, by decide +kernel⟩
def cmpL (m : Nat) (f : Nat → Bool) (x y : Nat) : List V := match Fam.part m f x y, Fam.part m f y x with
  | none, none => [.str "alike"]
  | some s, none => [.str "heavier", .int (s : Nat)]
  | none, some t => [.str "lighter", .int (t : Nat)]
  | some s, some t => [.str "apart", .int (s : Nat), .int (t : Nat)]
theorem eqS {K : PySem.W.Frag} {z z' : Str} {H : Hp} {Q : VK} (c : Bool) (h : decide (z = z') = c) (q : Q (.bl c) H) : rEqX K (.str z) (.str z') H Q := rEqX_s.mpr (h ▸ q)
theorem neS {K : PySem.W.Frag} {z z' : Str} {H : Hp} {Q : VK} (c : Bool) (h : (!decide (z = z')) = c) (q : Q (.bl c) H) : rNeX K (.str z) (.str z') H Q := rNeX_s.mpr (h ▸ q)
def spComparedIn (K : PySem.W.Frag) : Sp := sp4 fun u v x y H Q => ∃ (m : Nat) (p : Addr) (f : Nat → Bool) (i j : Nat), u = .int m ∧ m ≤ 8 ∧ v = .ref p ∧ SqL K H p (bV (tab (2 ^ m) f)) ∧ x = .int i ∧ i < m ∧ y = .int j ∧ j < m ∧ ∀ t H', H t = none → Same H H' → H' t = some (.tup (cmpL m f i j)) → Q (.ref t) H'
set_option maxHeartbeats 4000000 in
theorem ok_compared_in {f : Addr} {fd : FuncData} (F : Fun K "compared_in" "compared_in" s_compared_in f fd) (T : Txt mg) {f_first_parting : Addr} {fd_first_parting : FuncData} (C_first_parting : Cal P w K mg base "first_parting" 2 ["many", "table", "x", "y"] (spParting K) f_first_parting fd_first_parting) : FnOk P w K mg base CX0 3 f fd ["many", "table", "x", "y"] (spComparedIn K) := by
  have sc := sc_compared_in
  refine F.ok sc_compared_in (fun vs H Q E h => ?_) (fun cdv A outer s H vs Q E hr h => ?_)
  · obtain ⟨_, _, _, _, rfl, _⟩ := h
    rfl
  · obtain ⟨x0, x1, x2, x3, rfl, h⟩ := h
    refine ⟨_, (pss_cons (ps_set (i := 4) sc.nd rfl (Or.inl rfl) (pe_cal C_first_parting hr (by decide) (by rfl) (pa_cons (pv 0) (pa_cons (pv 1) (pa_cons (pv 2) (pa_cons (pv 3) pa_nil))))))
      (pss_cons (ps_set (i := 5) sc.nd rfl (Or.inl rfl) (pe_cal C_first_parting hr (by decide) (by rfl) (pa_cons (pv 0) (pa_cons (pv 1) (pa_cons (pv 3) (pa_cons (pv 2) pa_nil))))))
      (pss_cons (ps_if (PW.pt (pw_and (pt_cmpR op_isP (pv 4) pe_non (nomark _)) (pw_and1 (pt_cmpR op_isP (pv 5) pe_non (nomark _))))) (pss_one (ps_ret (pe_tup (pa_cons pe_str pa_nil)))) pss_nil)
      (pss_cons (ps_if (pt_cmpR op_isP (pv 5) pe_non (nomark _)) (pss_one (ps_ret (pe_tup (pa_cons pe_str (pa_cons (pv 4) pa_nil))))) pss_nil)
      (pss_cons (ps_if (pt_cmpR op_isP (pv 4) pe_non (nomark _)) (pss_one (ps_ret (pe_tup (pa_cons pe_str (pa_cons (pv 5) pa_nil))))) pss_nil)
      (pss_one (ps_ret (pe_tup (pa_cons pe_str (pa_cons (pv 4) (pa_cons (pv 5) pa_nil))))))))))), ?_⟩
    refine rdg (σ' := [some x0, some x1, some x2, some x3, none, none]) rfl ?_
    obtain ⟨m, p, f, x, y, rfl, hm, rfl, hq, rfl, hx, rfl, hy, q⟩ := h
    walk_at "rd"
    refine ⟨_, _, _, _, rfl, m, p, f, x, y, rfl, hm, rfl, hq, rfl, hx, rfl, hy, ?_⟩
    (try walk_at "rd")
    refine ⟨_, _, _, _, rfl, m, p, f, y, x, rfl, hm, rfl, hq, rfl, hy, rfl, hx, ?_⟩
    (try walk_at "rd")
    have fin : ∀ t (L : List V), H t = none → L = cmpL m f x y → Q (.ref t) (upd H t (.tup L)) := fun t L ht e => q t _ ht (Same.new ht) (by rw [upd_same, e])
    unfold cmpL at fin
    cases h1 : Fam.part m f x y with
    | none =>
      cases h2 : Fam.part m f y x with
      | none =>
        rw [h1, h2] at fin
        exact ⟨rfl, nonT ⟨rfl, nonT ⟨small5 (by simp), fun t ht => fin t _ ht rfl⟩⟩⟩
      | some t2 =>
        rw [h1, h2] at fin
        exact ⟨rfl, nonT ⟨rfl, nonF ⟨rfl, nonF ⟨rfl, nonT ⟨small5 (by simp), fun t ht => fin t _ ht rfl⟩⟩⟩⟩⟩
    | some s1 =>
      cases h2 : Fam.part m f y x with
      | none =>
        rw [h1, h2] at fin
        exact ⟨rfl, nonF ⟨rfl, nonT ⟨small5 (by simp), fun t ht => fin t _ ht rfl⟩⟩⟩
      | some t2 =>
        rw [h1, h2] at fin
        exact ⟨rfl, nonF ⟨rfl, nonF ⟨rfl, nonF ⟨small5 (by simp), fun t ht => fin t _ ht rfl⟩⟩⟩⟩
abbrev s_turned_by : Stmt := top 26
theorem sc_turned_by : FnScope ["many", "table", "k"] ["many", "table", "k"] (defScope s_turned_by) := ⟨rfl, rfl, rfl, by decide +kernel, rfl, by decide +kernel, by decide +kernel⟩
def spTurned (K : PySem.W.Frag) : Sp := sp3 fun x y z H Q => ∃ (m : Nat) (p : Addr) (f : Nat → Bool) (k : Nat), x = .int m ∧ m ≤ 8 ∧ y = .ref p ∧ H p = some (.lst (bV (tab (2 ^ m) f))) ∧ z = .int k ∧ k < m ∧ ∀ H', Same H H' → Q (.int (Fam.trn m f k : Nat)) H'
set_option maxHeartbeats 4000000 in
theorem ok_turned_by {f : Addr} {fd : FuncData} (F : Fun K "turned_by" "turned_by" s_turned_by f fd) (T : Txt mg)  : FnOk P w K mg base CX0 1 f fd ["many", "table", "k"] (spTurned K) := by
  have sc := sc_turned_by
  refine F.ok sc_turned_by (fun vs H Q E h => ?_) (fun cdv A outer s H vs Q E hr h => ?_)
  · obtain ⟨_, _, _, rfl, _⟩ := h
    rfl
  · obtain ⟨x0, x1, x2, rfl, h⟩ := h
    refine ⟨_, (pss_one (ps_ret (pe_callB (call_lenK (K := K) rfl) (by rfl) T.n_len PySem.boot_len (pa_cons (pe_comp (N := ["s", "table", "k"]) (nt := 1) (caps := [1, 2]) comp_ok rfl (pi_range1 (by rfl) T.n_range (pa_cons (pe_op op_shl pe_int (pv 0)) pa_nil)) (fun _ _ _ _ _ => (pg_name (i := 0) (show List.Nodup (α := Str) ["s", "table", "k"] from by decide +kernel) rfl (Or.inl rfl))) gk_name (fun _ _ _ _ _ => (pts_one (PW.pt (pw_and (pt_not (pt_val (pe_ix (ix_K (K := K) rfl) (pv 1) (pv 0) (fun _ _ => rfl)))) (pw_and1 (pt_val (pe_ix (ix_K (K := K) rfl) (pv 1) (pe_op op_or (pv 0) (pe_op op_shl pe_int (pv 2))) (fun _ _ => rfl)))))))) (fun _ _ _ _ _ => (pv 0))) pa_nil)))), ?_⟩
    refine rdg (σ' := [some x0, some x1, some x2]) rfl ?_
    obtain ⟨m, p, f, k, rfl, hm, rfl, f1, rfl, hk, q⟩ := h
    walk_at "rd"
    have pp := Nat.two_pow_pos m
    have p8 : 2 ^ m ≤ 256 := Nat.pow_le_pow_right (n := 2) (by decide) hm
    have pk : 2 ^ k < 2 ^ m := Nat.pow_lt_pow_right (by decide) hk
    rw [shl_one]
    refine ⟨cpow_of (by omega) (by omega) (by decide) (by decide), by omega, by omega, ?_⟩
    rw [Int.toNat_natCast]
    refine compRs (fun s => !f s && f (s ||| 2 ^ k)) (fun s => .int (s : Nat)) (by omega) (fun s hs H1 sm R R' r1 r2 => ?_) fun H1 p1 sm hp => ?_
    · (try walk_at "rd")
      refine ixX_l (SqL.of (sm _ _ f1)) (atI_tab hs) ⟨_, rfl, ?_⟩
      (try walk_at "rd")
      cases h1 : f s with
      | true =>
        rw [if_neg (by decide)]
        exact r2 (by rw [h1]; rfl) _ (Same.refl _)
      | false =>
        rw [if_pos rfl]
        rw [shl_one, or_nat]
        refine ⟨cpow_of (by omega) (by omega) (by decide) (by decide), ixX_l (SqL.of (sm _ _ f1)) (atI_tab (Nat.or_lt_two_pow hs pk)) ⟨_, rfl, ite_of (fun hc => r1 (by rw [h1, hc]; rfl) _ (Same.refl _)) fun hc => r2 (by rw [h1, hc]; rfl) _ (Same.refl _)⟩⟩
    · refine ⟨p1, rfl, _, .inl (SqL.of upd_same), ?_⟩
      rw [List.length_map]
      exact q _ (sm.trans (Same.new hp))
abbrev s_turns : Stmt := top 25
theorem sc_turns : FnScope ["many", "family", "table"] ["many", "family"] (defScope s_turns) := ⟨rfl, rfl, rfl, by decide +kernel, rfl, by decide +kernel, by decide +kernel⟩
def spTurns (K : PySem.W.Frag) : Sp := sp2 fun x y H Q => ∃ (m : Nat) (p : Addr) (fs : List Nat), x = .int m ∧ m ≤ 8 ∧ y = .ref p ∧ H p = some (.lst (nV fs)) ∧ ∀ H' p', H p' = none → Same H H' → H' p' = some (.lst (nV (Fam.trns m (Fam.sayP fs)))) → Q (.ref p') H'
set_option maxHeartbeats 4000000 in
theorem ok_turns {f : Addr} {fd : FuncData} (F : Fun K "turns" "turns" s_turns f fd) (T : Txt mg) {f_table_of : Addr} {fd_table_of : FuncData} (C_table_of : Cal P w K mg base "table_of" 3 ["many", "family"] (spTableOf K) f_table_of fd_table_of) {f_turned_by : Addr} {fd_turned_by : FuncData} (C_turned_by : Cal P w K mg base "turned_by" 1 ["many", "table", "k"] (spTurned K) f_turned_by fd_turned_by) : FnOk P w K mg base CX0 4 f fd ["many", "family"] (spTurns K) := by
  have sc := sc_turns
  refine F.ok sc_turns (fun vs H Q E h => ?_) (fun cdv A outer s H vs Q E hr h => ?_)
  · obtain ⟨_, _, rfl, _⟩ := h
    rfl
  · obtain ⟨x0, x1, rfl, h⟩ := h
    refine ⟨_, (pss_cons (ps_set (i := 2) sc.nd rfl (Or.inr rfl) (pe_cal C_table_of hr (by decide) (by rfl) (pa_cons (pv 0) (pa_cons (pv 1) pa_nil))))
      (pss_one (ps_ret (pe_comp (N := ["k", "many", "table"]) (nt := 1) (caps := [0, 2]) comp_ok rfl (pi_range1 (by rfl) T.n_range (pa_cons (pv 0) pa_nil)) (fun _ _ _ _ _ => (pg_name (i := 0) (show List.Nodup (α := Str) ["k", "many", "table"] from by decide +kernel) rfl (Or.inl rfl))) gk_name (fun _ _ _ _ _ => pts_nil) (fun _ _ _ _ _ => (pe_cal C_turned_by hr (by decide) (by rfl) (pa_cons (pv 1) (pa_cons (pv 2) (pa_cons (pv 0) pa_nil))))))))), ?_⟩
    refine rdg (σ' := [some x0, some x1, none]) rfl ?_
    obtain ⟨m, p, fs, rfl, hm, rfl, f1, q⟩ := h
    walk_at "rd"
    refine ⟨_, _, rfl, m, p, fs, rfl, hm, rfl, f1, fun G1 p1 hp1 t1 a1 => ?_⟩
    (try walk_at "rd")
    refine ⟨by omega, by omega, ?_⟩
    rw [Int.toNat_natCast]
    refine compRs (fun _ => true) (fun k => .int (Fam.trn m (Fam.sayP fs) k : Nat)) (by omega) (fun k hk H1 sm R R' r1 r2 => ?_) fun H1 p2 sm hp => ?_
    · (try walk_at "rd")
      exact ⟨_, _, _, rfl, m, p1, _, k, rfl, hm, rfl, sm _ _ a1, rfl, hk, fun H2 s2 => r1 rfl _ s2⟩
    have e : ((List.range m).filter fun _ => true).map (fun k => V.int (Fam.trn m (Fam.sayP fs) k : Nat)) = nV (Fam.trns m (Fam.sayP fs)) := by
      rw [List.filter_eq_self.mpr fun _ _ => rfl]
      simp [Fam.trns]
    rw [e]
    have t2 := t1.trans sm
    exact q _ p2 (old_none t2 hp) (t2.trans (Same.new hp)) upd_same
abbrev s_ranked : Stmt := top 28
theorem sc_ranked : FnScope ["counts", "lists", "count"] ["counts"] (defScope s_ranked) := ⟨rfl, rfl, rfl, by decide +kernel, rfl, by decide +kernel, by decide +kernel⟩
def spRanked (K : PySem.W.Frag) : Sp := sp1 fun x H Q => ∃ (p : Addr) (cs : List Nat), x = .ref p ∧ H p = some (.lst (nV cs)) ∧ cs.length ≤ 8 ∧ ∀ (p' : Addr) (ps : List Addr) (H' : Hp), Same H H' → Lsts H H' p' (rkd cs) ps → Q (.ref p') H'
set_option maxHeartbeats 4000000 in
theorem ok_ranked {f : Addr} {fd : FuncData} (F : Fun K "ranked" "ranked" s_ranked f fd) (T : Txt mg)  : FnOk P w K mg base CX0 1 f fd ["counts"] (spRanked K) := by
  have sc := sc_ranked
  refine F.ok sc_ranked (fun vs H Q E h => ?_) (fun cdv A outer s H vs Q E hr h => ?_)
  · obtain ⟨_, rfl, _⟩ := h
    rfl
  · obtain ⟨x0, rfl, h⟩ := h
    refine ⟨_, (pss_cons (ps_set (i := 1) sc.nd rfl (Or.inl rfl) (pe_lst pa_nil))
      (pss_cons (ps_for PassesOwn.never rfl (pi_reversed (K := K) rfl (by rfl) T.n_reversed (pa_cons (pe_callB (call_sortX (P := P) (w := w) (K := K) rfl rfl rfl rfl) (by rfl) T.n_sorted PyProof.Rows.boot_sorted (pa_cons (pe_callTy (call_setK (P := P) (w := w) (K := K) rfl rfl rfl rfl) (by rfl) T.n_set PyProof.Rows.boot_set (pa_cons (pv 0) pa_nil)) pa_nil)) pa_nil)) (pg_name (i := 2) sc.nd rfl (Or.inr rfl)) (pss_one (ps_expr (pe_bm PySem.F.plainAttrs_list PySem.F.slot_list_append PySem.F.type_list_append mt_append (pv 1) (pa_cons (pe_comp (N := ["k", "turned", "count"]) (nt := 2) (caps := [2]) comp_ok rfl (pi_enum (K := K) rfl (by rfl) T.n_enumerate (pa_cons (pv 0) pa_nil)) (fun _ _ _ _ _ => (pg_tup (n := 2) rfl (pgs_cons (pg_name (i := 0) (show List.Nodup (α := Str) ["k", "turned", "count"] from by decide +kernel) rfl (Or.inl rfl)) (pgs_cons (pg_name (i := 1) (show List.Nodup (α := Str) ["k", "turned", "count"] from by decide +kernel) rfl (Or.inl rfl)) pgs_nil)))) gk_two (fun _ _ _ _ _ => (pts_one (pt_cmpR (op_eqK (K := K) rfl hr.units0) (pv 1) (pv 2) (nomark _)))) (fun _ _ _ _ _ => (pv 0))) pa_nil)))))
      (pss_one (ps_ret (pv 1))))), ?_⟩
    refine rdg (σ' := [some x0, none, none]) rfl ?_
    obtain ⟨p, cs, rfl, f1, hl, q⟩ := h
    walk_at "rd"
    refine ⟨small5 (by simp), fun p0 hp0 => ?_⟩
    generalize g0 : upd H p0 _ = G0
    have a0 := new_at g0
    have t0 := new_sm g0 hp0
    refine ⟨p, _, rfl, SqL.of (t0 _ _ f1), by simp; omega, fun p1 hp1 => ?_⟩
    generalize g1 : upd G0 p1 _ = G1
    have a1 := new_at g1
    have t1 := t0.trans (new_sm g1 hp1)
    have a0 := new_sm g1 hp1 _ _ a0
    refine ⟨p1, _, rfl, .inr a1, Nat.le_trans (dedup_len _) (by simp; omega), fun p2 ms hp2 m1 m2 => ?_⟩
    have lsd := sd_le cs hl
    rw [sorted_sd m1 m2]
    generalize g2 : upd G1 p2 _ = G2
    have a2 := new_at g2
    have t2 := t1.trans (new_sm g2 hp2)
    have n02 := ne_new hp2 a0
    have a0 := new_sm g2 hp2 _ _ a0
    refine ⟨p2, rfl, _, SqL.of a2, ?_⟩
    refine loopVn (fs := sd cs) (fun i σ H3 => ∃ (v : Option V) (ps : List Addr), σ = [some (.ref p), some (.ref p0), v] ∧ Same H H3 ∧ H3 p2 = some (.lst (nV (sd cs))) ∧ Lsts H H3 p0 (((sd cs).reverse.take i).map (rkV cs)) ps ∧ ∀ r ∈ ps, r ≠ p0) ⟨none, [], rfl, t2, a2, ⟨hp0, a0, rfl, fun j r L z => (by cases z)⟩, fun r hr => (by cases hr)⟩ (fun i σ H3 _ ⟨_, _, _, _, e, _⟩ => SqL.of e) ?_ ?_
    · rintro i b σ H3 hbi ⟨v, ps, rfl, s3, b2, L3, hne⟩ N hN
      have lps : ps.length ≤ 8 := by
        rw [L3.2.2.1, List.length_map, List.length_take, List.length_reverse]
        omega
      (try walk_at "rd")
      refine ⟨tyV_list L3.2.1, _, SqL.of (s3 _ _ f1), compEs (fs := cs) (fun _ x => decide (x = b)) (fun k => .int (k : Nat)) (SqL.of (s3 _ _ f1)) (by omega) (fun k x hx R R' H4 t s4 at4 r1 r2 => ?_) fun H4 p4 s4 hp4 => ?_⟩
      · (try walk_at "rd")
        refine ⟨_, SqT.of at4, rfl, _, _, rfl, _, _, rfl, rfl, ?_⟩
        (try walk_at "rd")
        exact ite_iff (b := decide (x = b)) (by rw [decide_eq_true_eq]; omega) r1 r2
      rw [nV_map, show ((List.range cs.length).filter fun i => decide (cs.getD i 0 = b)) = rkV cs b from rfl]
      generalize g4 : upd H4 p4 _ = G4
      have a4 := new_at g4
      have s4' := s4.trans (new_sm g4 hp4)
      have n4 := ne_new hp4 (s4 _ _ L3.2.1)
      have L4 := L3.mono s4'
      refine ⟨p0, _, _, rfl, rfl, L4.2.1, small5' (by rw [List.length_map]; omega), ?_⟩
      refine hN _ _ ⟨_, ps ++ [p4], rfl, (s3.trans s4').upd hp0, by rw [upd_ne (Ne.symm n02)]; exact s4' _ _ b2, ?_, fun r hr => ?_⟩
      · rw [List.take_add_one, hbi, List.map_append]
        exact L4.snoc (old_none (s3.trans s4) hp4) a4 hne (Ne.symm n4)
      · rcases List.mem_append.mp hr with z | z
        · exact hne r z
        · rw [show r = p4 by simpa using z]; exact Ne.symm n4
    · rintro σ H3 ⟨v, ps, rfl, s3, b2, L3, hne⟩
      rw [← List.length_reverse, List.take_length] at L3
      (try walk_at "rd")
      exact q p0 ps _ s3 L3
abbrev s_ranks : Stmt := top 27
theorem sc_ranks : FnScope ["many", "family", "table", "x", "y", "told"] ["many", "family"] (defScope s_ranks) := ⟨rfl, rfl, rfl, by decide +kernel, rfl, by decide +kernel, by decide +kernel⟩
/-- what ranks tells, its objects new to H0 -/
def Rkd (H0 H : Hp) (m : Nat) (f : Nat → Bool) (t : Addr) : Prop := H0 t = none ∧ ((∃ x y s u : Nat, x < y ∧ y < m ∧ NoAp m f x y ∧ Fam.part m f x y = some s ∧ Fam.part m f y x = some u ∧ H t = some (.tup [.str "apart", .int (x : Nat), .int (y : Nat), .int (s : Nat), .int (u : Nat)])) ∨
  NoAp m f m 0 ∧ ∃ (p' : Addr) (ps : List Addr), H t = some (.tup [.str "ranks", .ref p']) ∧ Lsts H0 H p' (rkd (Fam.trns m f)) ps)
theorem Rkd.mono {H0 H H' : Hp} {m : Nat} {f : Nat → Bool} {t : Addr} (h : Rkd H0 H m f t) (s : Same H H') : Rkd H0 H' m f t := by
  obtain ⟨h0, ⟨x, y, u, v, h1, h2, h3, h4, h5, h6⟩ | ⟨h1, p', ps, h2, h3⟩⟩ := h
  · exact ⟨h0, .inl ⟨x, y, u, v, h1, h2, h3, h4, h5, s _ _ h6⟩⟩
  · exact ⟨h0, .inr ⟨h1, p', ps, s _ _ h2, h3.mono s⟩⟩
def spRanks (K : PySem.W.Frag) : Sp := sp2 fun x y H Q => ∃ (m : Nat) (p : Addr) (fs : List Nat), x = .int m ∧ m ≤ 8 ∧ y = .ref p ∧ H p = some (.lst (nV fs)) ∧ ∀ t H', Same H H' → Rkd H H' m (Fam.sayP fs) t → Q (.ref t) H'
set_option maxHeartbeats 4000000 in
theorem ok_ranks {f : Addr} {fd : FuncData} (F : Fun K "ranks" "ranks" s_ranks f fd) (T : Txt mg) {f_table_of : Addr} {fd_table_of : FuncData} (C_table_of : Cal P w K mg base "table_of" 3 ["many", "family"] (spTableOf K) f_table_of fd_table_of) {f_ranked : Addr} {fd_ranked : FuncData} (C_ranked : Cal P w K mg base "ranked" 1 ["counts"] (spRanked K) f_ranked fd_ranked) {f_compared_in : Addr} {fd_compared_in : FuncData} (C_compared_in : Cal P w K mg base "compared_in" 3 ["many", "table", "x", "y"] (spComparedIn K) f_compared_in fd_compared_in) {f_turns : Addr} {fd_turns : FuncData} (C_turns : Cal P w K mg base "turns" 4 ["many", "family"] (spTurns K) f_turns fd_turns) : FnOk P w K mg base CX0 5 f fd ["many", "family"] (spRanks K) := by
  have sc := sc_ranks
  refine F.ok sc_ranks (fun vs H Q E h => ?_) (fun cdv A outer s H vs Q E hr h => ?_)
  · obtain ⟨_, _, rfl, _⟩ := h
    rfl
  · obtain ⟨x0, x1, rfl, h⟩ := h
    refine ⟨_, (pss_cons (ps_set (i := 2) sc.nd rfl (Or.inl rfl) (pe_cal C_table_of hr (by decide) (by rfl) (pa_cons (pv 0) (pa_cons (pv 1) pa_nil))))
      (pss_cons (ps_for PassesOwn.never rfl (pi_range1 (by rfl) T.n_range (pa_cons (pv 0) pa_nil)) (pg_name (i := 3) sc.nd rfl (Or.inl rfl)) (pss_one (ps_for PassesOwn.never rfl (pi_range2 (by rfl) T.n_range (pa_cons (pe_op op_add (pv 3) pe_int) (pa_cons (pv 0) pa_nil))) (pg_name (i := 4) sc.nd rfl (Or.inl rfl)) (pss_cons (ps_set (i := 5) sc.nd rfl (Or.inl rfl) (pe_cal C_compared_in hr (by decide) (by rfl) (pa_cons (pv 0) (pa_cons (pv 2) (pa_cons (pv 3) (pa_cons (pv 4) pa_nil))))))
      (pss_one (ps_if (pt_cmpR (op_eqK (K := K) rfl hr.units0) (pe_ix (ix_K (K := K) rfl) (pv 5) pe_int (fun _ _ => rfl)) pe_str (nomark _)) (pss_one (ps_ret (pe_tup (pa_cons pe_str (pa_cons (pv 3) (pa_cons (pv 4) (pa_cons (pe_ix (ix_K (K := K) rfl) (pv 5) pe_int (fun _ _ => rfl)) (pa_cons (pe_ix (ix_K (K := K) rfl) (pv 5) pe_int (fun _ _ => rfl)) pa_nil)))))))) pss_nil))))))
      (pss_one (ps_ret (pe_tup (pa_cons pe_str (pa_cons (pe_cal C_ranked hr (by decide) (by rfl) (pa_cons (pe_cal C_turns hr (by decide) (by rfl) (pa_cons (pv 0) (pa_cons (pv 1) pa_nil))) pa_nil)) pa_nil))))))), ?_⟩
    refine rdg (σ' := [some x0, some x1, none, none, none, none]) rfl ?_
    obtain ⟨m, p, fs, rfl, hm, rfl, f1, q⟩ := h
    walk_at "rd"
    refine ⟨_, _, rfl, m, p, fs, rfl, hm, rfl, f1, fun G1 p1 hp1 t1 a1 => ?_⟩
    (try walk_at "rd")
    refine ⟨by omega, by omega, ?_⟩
    rw [Int.toNat_natCast]
    refine loopRn (fun x σ H3 => ∃ v1 v2 v3, σ = [some (.int m), some (.ref p), some (.ref p1), v1, v2, v3] ∧ Same G1 H3 ∧ NoAp m (Fam.sayP fs) x 0) ⟨none, none, none, rfl, Same.refl _, fun x' y' h1 h2 h3 => (by omega)⟩ ?_ ?_
    · rintro x σ H3 hx ⟨v1, v2, v3, rfl, s3, h3⟩ N hN
      (try walk_at "rd")
      refine ⟨_, _, ⟨rfl, rfl⟩, ⟨by omega, by omega, by omega, by omega⟩, loopQn (lo := x + 1) (by simp) (fun j σ H4 => ∃ v2 v3, σ = [some (.int m), some (.ref p), some (.ref p1), some (.int (x : Nat)), v2, v3] ∧ Same G1 H4 ∧ NoAp m (Fam.sayP fs) x (x + 1 + j)) ⟨_, _, rfl, s3, fun x' y' h1 h2 h4 => ?_⟩ ?_ ?_⟩
      · rcases h4 with z | z
        · exact h3 x' y' h1 h2 (.inl z)
        · omega
      · rintro j σ H4 hj ⟨v2, v3, rfl, s4, h4⟩ N2 hN2
        have hy : x + 1 + j < m := by omega
        generalize ey : x + 1 + j = y at *
        (try walk_at "rd")
        refine ⟨_, _, _, _, rfl, m, p1, Fam.sayP fs, x, y, rfl, hm, rfl, SqL.of (s4 _ _ a1), rfl, hx, rfl, hy, fun t G5 ht s5 at5 => ?_⟩
        (try walk_at "rd")
        have s5' := s4.trans s5
        unfold cmpL at at5
        have nx : Fam.part m (Fam.sayP fs) x y = none ∨ Fam.part m (Fam.sayP fs) y x = none → NoAp m (Fam.sayP fs) x (x + 1 + (j + 1)) := fun z x' y' h1 h2 h5 => by
          by_cases c : x' = x ∧ y' = y
          · rw [c.1, c.2]; exact z
          · exact h4 x' y' h1 h2 (by omega)
        cases e1 : Fam.part m (Fam.sayP fs) x y with
        | none =>
          cases e2 : Fam.part m (Fam.sayP fs) y x with
          | none =>
            rw [e1, e2] at at5
            refine ixX_t (SqT.of at5) rfl (eqS false (by decide) ⟨_, rfl, iteF (hN2 _ _ ⟨_, _, rfl, s5', nx (.inl e1)⟩)⟩)
          | some u =>
            rw [e1, e2] at at5
            refine ixX_t (SqT.of at5) rfl (eqS false (by decide) ⟨_, rfl, iteF (hN2 _ _ ⟨_, _, rfl, s5', nx (.inl e1)⟩)⟩)
        | some s =>
          cases e2 : Fam.part m (Fam.sayP fs) y x with
          | none =>
            rw [e1, e2] at at5
            refine ixX_t (SqT.of at5) rfl (eqS false (by decide) ⟨_, rfl, iteF (hN2 _ _ ⟨_, _, rfl, s5', nx (.inr e2)⟩)⟩)
          | some u =>
            rw [e1, e2] at at5
            refine ixX_t (SqT.of at5) rfl (eqS true (by decide) ⟨_, rfl, iteT ?_⟩)
            refine ixX_t (SqT.of at5) rfl (ixX_t (SqT.of at5) rfl ⟨small5 (by simp), fun t6 ht6 => ?_⟩)
            have s6 := (t1.trans s5').trans (Same.new (o := .tup [.str "apart", .int (x : Nat), .int (y : Nat), .int (s : Nat), .int (u : Nat)]) ht6)
            refine q t6 _ s6 ⟨old_none (t1.trans s5') ht6, .inl ⟨x, y, s, u, by omega, hy, h4, e1, e2, upd_same⟩⟩
      · rintro σ H4 ⟨v2, v3, rfl, s4, h4⟩
        refine hN _ _ ⟨_, _, _, rfl, s4, fun x' y' h1 h2 h5 => h4 x' y' h1 h2 (by omega)⟩
    · rintro σ H3 ⟨v1, v2, v3, rfl, s3, h3⟩
      (try walk_at "rd")
      have t3 := t1.trans s3
      refine ⟨_, _, rfl, m, p, fs, rfl, hm, rfl, t3 _ _ f1, fun G5 p5 hp5 t5 a5 => ?_⟩
      (try walk_at "rd")
      refine ⟨_, rfl, p5, _, rfl, a5, by rw [trns_len]; exact hm, fun p6 ps G6 t6 L6 => ⟨small5 (by simp), fun t ht => ?_⟩⟩
      have s6 := (t3.trans t5).trans t6
      refine q t _ (s6.trans (Same.new ht)) ⟨old_none s6 ht, .inr ⟨h3, p6, ps, upd_same, ?_⟩⟩
      exact (L6.back (t3.trans t5)).mono (Same.new ht)
abbrev s_weight_of : Stmt := top 32
theorem sc_weight_of : FnScope ["weights", "one"] ["weights", "one"] (defScope s_weight_of) := ⟨rfl, rfl, rfl, by decide +kernel, rfl, by decide +kernel, by decide +kernel⟩
theorem sum_cast (L : List Nat) : (nI L).sum = ((L.sum : Nat) : Int) := by
  induction L with
  | nil => rfl
  | cons a r ih =>
    have : (nI (a :: r)).sum = (a : Int) + (nI r).sum := by simp [nI]
    rw [this, ih, List.sum_cons]
    omega
def spWeightOf (K : PySem.W.Frag) : Sp := sp2 fun x y H Q => ∃ (p : Addr) (ws : List Nat) (a : Nat), x = .ref p ∧ H p = some (.lst (nV ws)) ∧ ws.length ≤ 8 ∧ y = .int a ∧ a < 2 ^ ws.length ∧ ∀ H', Same H H' → Q (.int (Fam.wt ws a : Nat)) H'
set_option maxHeartbeats 4000000 in
theorem ok_weight_of {f : Addr} {fd : FuncData} (F : Fun K "weight_of" "weight_of" s_weight_of f fd) (T : Txt mg) {f_names_in : Addr} {fd_names_in : FuncData} (C_names_in : Cal P w K mg base "names_in" 1 ["one"] spNamesIn f_names_in fd_names_in) : FnOk P w K mg base CX0 2 f fd ["weights", "one"] (spWeightOf K) := by
  have sc := sc_weight_of
  refine F.ok sc_weight_of (fun vs H Q E h => ?_) (fun cdv A outer s H vs Q E hr h => ?_)
  · obtain ⟨_, _, rfl, _⟩ := h
    rfl
  · obtain ⟨x0, x1, rfl, h⟩ := h
    refine ⟨_, (pss_one (ps_ret (pe_callB (call_sumL (K := K) rfl rfl) (by rfl) T.n_sum PyProof.Rows.boot_sum (pa_cons (pe_comp (N := ["k", "weights"]) (nt := 1) (caps := [0]) comp_ok rfl (pi_list (pe_cal C_names_in hr (by decide) (by rfl) (pa_cons (pv 1) pa_nil))) (fun _ _ _ _ _ => (pg_name (i := 0) (show List.Nodup (α := Str) ["k", "weights"] from by decide +kernel) rfl (Or.inl rfl))) gk_name (fun _ _ _ _ _ => pts_nil) (fun _ _ _ _ _ => (pe_ix (ix_K (K := K) rfl) (pv 1) (pv 0) (fun _ _ => rfl)))) pa_nil)))), ?_⟩
    refine rdg (σ' := [some x0, some x1]) rfl ?_
    obtain ⟨p, ws, a, rfl, f1, hl, rfl, ha, q⟩ := h
    walk_at "rd"
    have a8 : a < 256 := Nat.lt_of_lt_of_le ha (Nat.pow_le_pow_right (n := 2) (by decide) hl)
    have l8 : (Fam.nms 8 a).length ≤ 8 := Nat.le_trans (List.length_filter_le _ _) (by simp)
    refine ⟨_, rfl, a, rfl, a8, fun G1 p1 t1 hp1 => ?_⟩
    generalize g1 : upd G1 p1 _ = G2
    have a1 := new_at g1
    have t2 := t1.trans (new_sm g1 hp1)
    refine ⟨p1, rfl, ⟨_, SqL.of a1⟩, compNs (fs := Fam.nms 8 a) (fun _ => true) (fun k => .int (ws.getD k 0 : Nat)) (SqL.of a1) (by omega) (fun k hk H3 s3 R R' r1 r2 => ?_) fun G3 p3 t3 hp3 => ?_⟩
    · (try walk_at "rd")
      have km := Fam.bit_low ha (Fam.mem_nms.mp hk).2
      have e : ws[k]? = some (ws.getD k 0) := by rw [List.getD_eq_getElem?_getD, List.getElem?_eq_getElem km]; rfl
      exact ixX_l (SqL.of (s3 _ _ (t2 _ _ f1))) (atI_n e) (r1 rfl _ (Same.refl _))
    have e : ((Fam.nms 8 a).filter fun _ => true).map (fun k => V.int (ws.getD k 0 : Nat)) = nV ((Fam.nms 8 a).map fun k => ws.getD k 0) := by
      rw [List.filter_eq_self.mpr fun _ _ => rfl]
      simp
    rw [e]
    refine ⟨p3, rfl, nI ((Fam.nms 8 a).map fun k => ws.getD k 0), SqL.of upd_same, ?_⟩
    rw [sum_cast]
    exact q _ ((t2.trans t3).trans (Same.new hp3))
abbrev s_traded : Stmt := top 34
theorem sc_traded : FnScope ["x", "y", "s", "t", "yes", "no"] ["x", "y", "s", "t"] (defScope s_traded) := ⟨rfl, rfl, rfl, by decide +kernel, rfl, by decide +kernel, by decide +kernel⟩
theorem perm_nI {L : List Nat} {ms : List Int} (h : ms.Perm (nI L)) : ∃ ys : List Nat, ms = nI ys ∧ ys.Perm L := by
  refine ⟨ms.map Int.toNat, ?_, ?_⟩
  · have : ∀ (l : List Int), (∀ x ∈ l, 0 ≤ x) → l = nI (l.map Int.toNat) := fun l => by
      induction l with
      | nil => intro _; rfl
      | cons a r ih =>
        intro hl
        have h1 := hl a List.mem_cons_self
        have h2 := ih fun x hx => hl x (List.mem_cons_of_mem _ hx)
        show a :: r = (a.toNat : Int) :: nI (r.map Int.toNat)
        rw [← h2, Int.toNat_of_nonneg h1]
    refine this ms fun x hx => ?_
    obtain ⟨b, _, rfl⟩ := List.mem_map.mp (h.mem_iff.mp hx)
    exact Int.natCast_nonneg b
  · have := h.map Int.toNat
    have e : (nI L).map Int.toNat = L := by unfold nI; rw [List.map_map]; exact List.map_id'' (fun x => rfl) L
    rwa [e] at this
def spTraded : Sp := sp4 fun u v a b H Q => ∃ x y s t : Nat, u = .int (x : Nat) ∧ v = .int (y : Nat) ∧ a = .int (s : Nat) ∧ b = .int (t : Nat) ∧ x < 8 ∧ y < 8 ∧
  ∀ (tt p1 p2 : Addr) (ys ns : List Nat) (H' : Hp), Same H H' → H tt = none → H p1 = none → H p2 = none → p1 ≠ p2 → H' tt = some (.tup [.str "trade", .ref p1, .ref p2]) → H' p1 = some (.lst (nV ys)) → H' p2 = some (.lst (nV ns)) → ys.Perm [s ||| 2 ^ x, t ||| 2 ^ y] → ns.Perm [s ||| 2 ^ y, t ||| 2 ^ x] → Q (.ref tt) H'
set_option maxHeartbeats 4000000 in
theorem ok_traded {f : Addr} {fd : FuncData} (F : Fun K "traded" "traded" s_traded f fd) (T : Txt mg)  : FnOk P w K mg base CX0 1 f fd ["x", "y", "s", "t"] spTraded := by
  have sc := sc_traded
  refine F.ok sc_traded (fun vs H Q E h => ?_) (fun cdv A outer s H vs Q E hr h => ?_)
  · obtain ⟨_, _, _, _, rfl, _⟩ := h
    rfl
  · obtain ⟨x0, x1, x2, x3, rfl, h⟩ := h
    refine ⟨_, (pss_cons (ps_set (i := 4) sc.nd rfl (Or.inl rfl) (pe_callB (call_sortX (P := P) (w := w) (K := K) rfl rfl rfl rfl) (by rfl) T.n_sorted PyProof.Rows.boot_sorted (pa_cons (pe_lst (pa_cons (pe_op op_or (pv 2) (pe_op op_shl pe_int (pv 0))) (pa_cons (pe_op op_or (pv 3) (pe_op op_shl pe_int (pv 1))) pa_nil))) pa_nil)))
      (pss_cons (ps_set (i := 5) sc.nd rfl (Or.inl rfl) (pe_callB (call_sortX (P := P) (w := w) (K := K) rfl rfl rfl rfl) (by rfl) T.n_sorted PyProof.Rows.boot_sorted (pa_cons (pe_lst (pa_cons (pe_op op_or (pv 2) (pe_op op_shl pe_int (pv 1))) (pa_cons (pe_op op_or (pv 3) (pe_op op_shl pe_int (pv 0))) pa_nil))) pa_nil)))
      (pss_one (ps_ret (pe_tup (pa_cons pe_str (pa_cons (pv 4) (pa_cons (pv 5) pa_nil)))))))), ?_⟩
    refine rdg (σ' := [some x0, some x1, some x2, some x3, none, none]) rfl ?_
    obtain ⟨x, y, s, t, rfl, rfl, rfl, rfl, hx, hy, q⟩ := h
    have px : 2 ^ x ≤ 256 := Nat.pow_le_pow_right (n := 2) (by decide) (show x ≤ 8 by omega)
    have py : 2 ^ y ≤ 256 := Nat.pow_le_pow_right (n := 2) (by decide) (show y ≤ 8 by omega)
    walk_at "rd"
    rw [shl_one, shl_one, or_nat, or_nat, or_nat, or_nat]
    refine ⟨cpow_of (by omega) (by omega) (by decide) (by decide), cpow_of (by omega) (by omega) (by decide) (by decide), small5 (by simp), fun p0 hp0 => ?_⟩
    generalize g0 : upd H p0 _ = G0
    have a0 := new_at g0
    have t0 := new_sm g0 hp0
    refine ⟨p0, nI [s ||| 2 ^ x, t ||| 2 ^ y], rfl, .inl (SqL.of a0), by simp, fun p1 ms hp1 m1 m2 => ?_⟩
    obtain ⟨ys, rfl, py1⟩ := perm_nI m1
    generalize g1 : upd G0 p1 _ = G1
    have a1 := new_at g1
    have t1 := t0.trans (new_sm g1 hp1)
    refine ⟨cpow_of (by omega) (by omega) (by decide) (by decide), cpow_of (by omega) (by omega) (by decide) (by decide), small5 (by simp), fun p2 hp2 => ?_⟩
    generalize g2 : upd G1 p2 _ = G2
    have a2 := new_at g2
    have t2 := t1.trans (new_sm g2 hp2)
    refine ⟨p2, nI [s ||| 2 ^ y, t ||| 2 ^ x], rfl, .inl (SqL.of a2), by simp, fun p3 ms hp3 m1' m2' => ?_⟩
    obtain ⟨ns, rfl, py2⟩ := perm_nI m1'
    generalize g3 : upd G2 p3 _ = G3
    have a3 := new_at g3
    have t3 := t2.trans (new_sm g3 hp3)
    have a1' := new_sm g3 hp3 _ _ (new_sm g2 hp2 _ _ a1)
    refine ⟨small5 (by simp), fun p4 hp4 => ?_⟩
    exact q p4 p1 p3 ys ns _ (t3.trans (Same.new hp4)) (old_none t3 hp4) (old_none t0 hp1) (old_none t2 hp3) (ne_new hp3 (new_sm g2 hp2 _ _ a1)) upd_same (Same.new hp4 _ _ a1') (Same.new hp4 _ _ a3) py1 py2
abbrev s_bar_between : Stmt := top 38
theorem sc_bar_between : FnScope ["weights", "yes", "no", "bar"] ["weights", "yes", "no"] (defScope s_bar_between) := ⟨rfl, rfl, rfl, by decide +kernel, rfl, by decide +kernel, by decide +kernel⟩
def BarB (ws ys ns : List Nat) (r : V) : Prop := (∃ b : Nat, r = .int (b : Nat) ∧ (∀ s ∈ ys, b ≤ Fam.wt ws s) ∧ ∀ t ∈ ns, Fam.wt ws t < b) ∨ r = .non ∧ ∃ s ∈ ys, ∃ t ∈ ns, Fam.wt ws s ≤ Fam.wt ws t
def spBarB (K : PySem.W.Frag) : Sp := sp3 fun x y z H Q => ∃ (p py pn : Addr) (ws ys ns : List Nat), x = .ref p ∧ H p = some (.lst (nV ws)) ∧ ws.length ≤ 8 ∧ y = .ref py ∧ H py = some (.lst (nV ys)) ∧ (∀ b ∈ ys, b < 2 ^ ws.length) ∧ ys.length ≤ 1000 ∧ z = .ref pn ∧ H pn = some (.lst (nV ns)) ∧ (∀ b ∈ ns, b < 2 ^ ws.length) ∧ ns.length ≤ 1000 ∧ ∀ (r : V) (H' : Hp), Same H H' → BarB ws ys ns r → Q r H'
set_option maxHeartbeats 4000000 in
theorem ok_bar_between {f : Addr} {fd : FuncData} (F : Fun K "bar_between" "bar_between" s_bar_between f fd) (T : Txt mg) {f_weight_of : Addr} {fd_weight_of : FuncData} (C_weight_of : Cal P w K mg base "weight_of" 2 ["weights", "one"] (spWeightOf K) f_weight_of fd_weight_of) : FnOk P w K mg base CX0 3 f fd ["weights", "yes", "no"] (spBarB K) := by
  have sc := sc_bar_between
  refine F.ok sc_bar_between (fun vs H Q E h => ?_) (fun cdv A outer s H vs Q E hr h => ?_)
  · obtain ⟨_, _, _, rfl, _⟩ := h
    rfl
  · obtain ⟨x0, x1, x2, rfl, h⟩ := h
    refine ⟨_, (pss_cons (ps_set (i := 3) sc.nd rfl (Or.inl rfl) (pe_op op_add (pe_callBd (call_maxD (K := K) rfl rfl) (by rfl) T.n_max PyProof.Rows.boot_max (pa_cons (pe_comp (N := ["s", "weights"]) (nt := 1) (caps := [0]) comp_ok rfl (pi_list (pv 2)) (fun _ _ _ _ _ => (pg_name (i := 0) (show List.Nodup (α := Str) ["s", "weights"] from by decide +kernel) rfl (Or.inl rfl))) gk_name (fun _ _ _ _ _ => pts_nil) (fun _ _ _ _ _ => (pe_cal C_weight_of hr (by decide) (by rfl) (pa_cons (pv 1) (pa_cons (pv 0) pa_nil))))) pa_nil) (pk_cons (pe_un un_neg pe_int) pk_nil)) pe_int))
      (pss_cons (ps_if (pt_cmpR op_ge (pe_callBd (call_minD (K := K) rfl rfl) (by rfl) T.n_min PyProof.Rows.boot_min (pa_cons (pe_comp (N := ["s", "weights"]) (nt := 1) (caps := [0]) comp_ok rfl (pi_list (pv 1)) (fun _ _ _ _ _ => (pg_name (i := 0) (show List.Nodup (α := Str) ["s", "weights"] from by decide +kernel) rfl (Or.inl rfl))) gk_name (fun _ _ _ _ _ => pts_nil) (fun _ _ _ _ _ => (pe_cal C_weight_of hr (by decide) (by rfl) (pa_cons (pv 1) (pa_cons (pv 0) pa_nil))))) pa_nil) (pk_cons (pv 3) pk_nil)) (pv 3) (nomark _)) (pss_one (ps_ret (pv 3))) pss_nil)
      (pss_one (ps_ret pe_non)))), ?_⟩
    refine rdg (σ' := [some x0, some x1, some x2, none]) rfl ?_
    obtain ⟨p, py, pn, ws, ys, ns, rfl, f1, hl, rfl, f2, hy, ly, rfl, f3, hn, ln, q⟩ := h
    walk_at "rd"
    refine ⟨⟨_, SqL.of f3⟩, compNs (fs := ns) (fun _ => true) (fun s => .int (Fam.wt ws s : Nat)) (SqL.of f3) (by omega) (fun s hs H1 sm R R' r1 r2 => ?_) fun G1 p1 t1 hp1 => ?_⟩
    · (try walk_at "rd")
      exact ⟨_, _, rfl, p, ws, s, rfl, sm _ _ f1, hl, rfl, hn s hs, fun H2 s2 => r1 rfl _ s2⟩
    have e : ∀ L : List Nat, (L.filter fun _ => true).map (fun s => V.int (Fam.wt ws s : Nat)) = (L.map fun s => (Fam.wt ws s : Int)).map V.int := fun L => by
      rw [List.filter_eq_self.mpr fun _ _ => rfl, List.map_map]
      rfl
    rw [e]
    have t1' := t1.trans (Same.new (o := .lst ((ns.map fun s => (Fam.wt ws s : Int)).map V.int)) hp1)
    generalize g1 : upd G1 p1 _ = G2
    have a1 := new_at g1
    rw [g1] at t1'
    refine ⟨p1, _, _, rfl, rfl, SqL.of a1, fun M hM => ?_⟩
    (try walk_at "rd")
    have M0 : ∃ b : Nat, M + 1 = (b : Nat) ∧ (∀ t ∈ ns, Fam.wt ws t < b) ∧ (b = 0 ∨ ∃ t ∈ ns, b = Fam.wt ws t + 1) := by
      rcases hM with ⟨h0, rfl⟩ | ⟨h1, h2⟩
      · have : ns = [] := List.map_eq_nil_iff.mp h0
        exact ⟨0, rfl, (fun t ht => by rw [this] at ht; cases ht), .inl rfl⟩
      · obtain ⟨t, ht, rfl⟩ := List.mem_map.mp h1
        refine ⟨Fam.wt ws t + 1, by omega, fun u hu => ?_, .inr ⟨t, ht, rfl⟩⟩
        have := h2 _ (List.mem_map.mpr ⟨u, hu, rfl⟩)
        omega
    obtain ⟨b, eb, b1, b2⟩ := M0
    rw [eb]
    refine ⟨⟨_, SqL.of (t1' _ _ f2)⟩, compNs (fs := ys) (fun _ => true) (fun s => .int (Fam.wt ws s : Nat)) (SqL.of (t1' _ _ f2)) (by omega) (fun s hs H1 sm R R' r1 r2 => ?_) fun G3 p3 t3 hp3 => ?_⟩
    · (try walk_at "rd")
      exact ⟨_, _, rfl, p, ws, s, rfl, sm _ _ (t1' _ _ f1), hl, rfl, hy s hs, fun H2 s2 => r1 rfl _ s2⟩
    rw [e]
    generalize g3 : upd G3 p3 _ = G4
    have a3 := new_at g3
    have t4 := (t1'.trans t3).trans (new_sm g3 hp3)
    refine ⟨p3, _, _, rfl, rfl, SqL.of a3, fun L hL => ?_⟩
    (try walk_at "rd")
    refine ite2 (fun hc => ?_) fun hc => ?_
    · refine q _ _ t4 (.inl ⟨b, rfl, fun s hs => ?_, b1⟩)
      rcases hL with ⟨h0, rfl⟩ | ⟨h1, h2⟩
      · have : ys = [] := List.map_eq_nil_iff.mp h0
        rw [this] at hs
        cases hs
      · have := h2 _ (List.mem_map.mpr ⟨s, hs, rfl⟩)
        omega
    · rcases hL with ⟨h0, rfl⟩ | ⟨h1, h2⟩
      · exact absurd (Int.le_refl _) hc
      · obtain ⟨s, hs, rfl⟩ := List.mem_map.mp h1
        rcases b2 with rfl | ⟨t, ht, rfl⟩
        · exact absurd (Int.natCast_nonneg _) hc
        · exact q _ _ t4 (.inr ⟨rfl, s, hs, t, ht, by omega⟩)
abbrev s_falling_lists : Stmt := top 36
theorem sc_falling_lists : FnScope ["length", "most", "told", "first"] ["length", "most"] (defScope s_falling_lists) := ⟨rfl, rfl, rfl, by decide +kernel, rfl, by decide +kernel, by decide +kernel⟩
def spFl (K : PySem.W.Frag) : Nat → Sp
  | 0 => sp2 fun _ _ _ _ => False
  | n + 1 => sp2 fun x y H Q => ∃ l M : Nat, x = .int (l : Nat) ∧ l ≤ n ∧ l ≤ 5 ∧ y = .int ((M : Int) - 1) ∧ M ≤ 6 ∧ ∀ (p' : Addr) (ps : List Addr) (H' : Hp), Same H H' → Lsts H H' p' (fl l M) ps → Q (.ref p') H'
theorem lsts_app {H0 H : Hp} {p : Addr} {LL MM : List (List Nat)} {ps rs : List Addr} (h : Lsts H0 H p LL ps) (hl : rs.length = MM.length) (hr : ∀ (j : Nat) (r : Addr) (L : List Nat), rs[j]? = some r → MM[j]? = some L → H0 r = none ∧ H r = some (.lst (nV L))) (hne : ∀ q ∈ ps, q ≠ p) (hne2 : ∀ q ∈ rs, q ≠ p) :
    Lsts H0 (upd H p (.lst (ps.map V.ref ++ rs.map V.ref))) p (LL ++ MM) (ps ++ rs) := by
  refine ⟨h.1, by rw [upd_same, List.map_append], by rw [List.length_append, List.length_append, h.2.2.1, hl], fun j q M h1 h2 => ?_⟩
  by_cases hj : j < ps.length
  · rw [List.getElem?_append_left hj] at h1
    rw [List.getElem?_append_left (by rw [← h.2.2.1]; exact hj)] at h2
    have := h.2.2.2 j q M h1 h2
    rw [upd_ne (hne q (List.mem_of_getElem? h1))]
    exact this
  · rw [List.getElem?_append_right (by omega)] at h1
    rw [List.getElem?_append_right (by rw [← h.2.2.1]; omega), ← h.2.2.1] at h2
    have := hr _ q M h1 h2
    rw [upd_ne (hne2 q (List.mem_of_getElem? h1))]
    exact this
theorem fl_succ (n i : Nat) : fl (n + 1) (i + 1) = fl (n + 1) i ++ (fl n i).map (i :: ·) := by
  show (List.range (i + 1)).flatMap _ = (List.range i).flatMap _ ++ _
  rw [List.range_succ, List.flatMap_append]
  simp
theorem fl_room {n M : Nat} (hn : n ≤ 5) (hM : M ≤ 6) : (fl n M).length ≤ 7776 := Nat.le_trans (fl_few hM) (Nat.pow_le_pow_right (n := 6) (by decide) hn)
set_option maxHeartbeats 4000000 in
theorem ok_falling_lists {f : Addr} {fd : FuncData} (F : Fun K "falling_lists" "falling_lists" s_falling_lists f fd) (T : Txt mg)  (n : Nat) (C_falling_lists : Cal P w K mg base "falling_lists" (1 + n) ["length", "most"] (spFl K n) f fd) : FnOk P w K mg base CX0 (1 + n + 1) f fd ["length", "most"] (spFl K (n + 1)) := by
  have sc := sc_falling_lists
  refine F.ok sc_falling_lists (fun vs H Q E h => ?_) (fun cdv A outer s H vs Q E hr h => ?_)
  · obtain ⟨_, _, rfl, _⟩ := h
    rfl
  · obtain ⟨x0, x1, rfl, h⟩ := h
    refine ⟨_, (pss_cons (ps_if (pt_cmpR (op_eqK (K := K) rfl hr.units0) (pv 0) pe_int (nomark _)) (pss_one (ps_ret (pe_lst (pa_cons (pe_lst pa_nil) pa_nil)))) pss_nil)
      (pss_cons (ps_set (i := 2) sc.nd rfl (Or.inl rfl) (pe_lst pa_nil))
      (pss_cons (ps_for PassesOwn.never rfl (pi_range1 (by rfl) T.n_range (pa_cons (pe_op op_add (pv 1) pe_int) pa_nil)) (pg_name (i := 3) sc.nd rfl (Or.inr rfl)) (pss_one (ps_expr (pe_bm PySem.F.plainAttrs_list PySem.F.slot_list_extend PySem.F.type_list_extend mt_extend (pv 2) (pa_cons (pe_comp (N := ["others", "first"]) (nt := 1) (caps := [3]) comp_ok rfl (pi_listK (K := K) rfl (pe_cal C_falling_lists hr (by omega) (by rfl) (pa_cons (pe_op op_sub (pv 0) pe_int) (pa_cons (pe_op op_sub (pv 3) pe_int) pa_nil)))) (fun _ _ _ _ _ => (pg_name (i := 0) (show List.Nodup (α := Str) ["others", "first"] from by decide +kernel) rfl (Or.inl rfl))) gk_name (fun _ _ _ _ _ => pts_nil) (fun _ _ _ _ _ => (pe_op (op_catK (K := K) rfl) (pe_lst (pa_cons (pv 1) pa_nil)) (pv 0)))) pa_nil)))))
      (pss_one (ps_ret (pv 2)))))), ?_⟩
    refine rdg (σ' := [some x0, some x1, none, none]) rfl ?_
    obtain ⟨l, M, rfl, hl, hl5, rfl, hM, q⟩ := h
    walk_at "rd"
    by_cases c : l = 0
    · subst c
      rw [if_pos (by rfl)]
      refine ⟨small5 (by simp), fun p1 hp1 => ⟨small5 (by simp), fun p2 hp2 => ?_⟩⟩
      have n12 : p1 ≠ p2 := ne_new hp2 (show upd H p1 (.lst []) p1 = some (.lst []) from upd_same)
      refine q p2 [p1] _ ((Same.new hp1).trans (Same.new hp2)) ⟨old_none (Same.new hp1) hp2, upd_same, rfl, fun j r L h1 h2 => ?_⟩
      match j with
      | 0 =>
        cases h1
        cases h2
        exact ⟨hp1, by rw [upd_ne n12, upd_same]; rfl⟩
      | j + 1 => cases h1
    obtain ⟨l', rfl⟩ : ∃ l', l = l' + 1 := ⟨l - 1, by omega⟩
    obtain ⟨n', rfl⟩ : ∃ n', n = n' + 1 := ⟨n - 1, by omega⟩
    rw [if_neg (by omega)]
    refine ⟨small5 (by simp), fun p0 hp0 => ?_⟩
    generalize g0 : upd H p0 _ = G0
    have a0 := new_at g0
    have t0 := new_sm g0 hp0
    rw [show ((M : Int) - 1 + 1) = ((M : Nat) : Int) by omega]
    refine ⟨by omega, by omega, ?_⟩
    rw [Int.toNat_natCast]
    refine loopRn (fun i σ H3 => ∃ (v : Option V) (ps : List Addr), σ = [some (.int ((l' + 1 : Nat))), some (.int ((M : Int) - 1)), some (.ref p0), v] ∧ Same H H3 ∧ Lsts H H3 p0 (fl (l' + 1) i) ps ∧ ∀ r ∈ ps, r ≠ p0) ⟨none, [], rfl, t0, ⟨hp0, a0, rfl, fun j r L z => (by cases z)⟩, fun r hr => (by cases hr)⟩ ?_ ?_
    · rintro i σ H3 hi ⟨v, ps, rfl, s3, L3, hne⟩ N hN
      (try walk_at "rd")
      refine ⟨tyV_list L3.2.1, _, _, rfl, l', i, congrArg V.int (by omega), by omega, by omega, rfl, by omega, fun p5 qs H5 s5 L5 => ?_⟩
      have lq : qs.length ≤ 7776 := by rw [L5.2.2.1]; exact fl_room (by omega) (by omega)
      have lp : ps.length ≤ 7776 := by rw [L3.2.2.1]; exact fl_room hl5 (by omega)
      refine ⟨p5, rfl, ⟨_, SqL.of L5.2.1⟩, compLg (xs := qs.map V.ref) (fun k ys H6 => ∃ rs : List Addr, ys = rs.map V.ref ∧ rs.length = k ∧ Same H5 H6 ∧ ∀ (j : Nat) (r : Addr) (L : List Nat), rs[j]? = some r → (fl l' i)[j]? = some L → H5 r = none ∧ H6 r = some (.lst (nV (i :: L)))) ⟨[], rfl, rfl, Same.refl _, fun j r L z => (by cases z)⟩ (small5 (by rw [List.length_map]; omega)) (fun k ys H6 hk ⟨rs, e1, e2, s6, _⟩ => ⟨SqL.of (s6 _ _ L5.2.1), by rw [e1, List.length_map]; omega⟩) (fun k z ys H6 hz ⟨rs, e1, e2, s6, h6⟩ R R' r1 r2 => ?_) fun ys H6 ⟨rs, e1, e2, s6, h6⟩ pz hpz => ?_⟩
      · obtain ⟨qa, ea, rfl⟩ := refs_get hz
        obtain ⟨qa', La, ea', eL, mL, aq⟩ := L5.at (List.getElem?_eq_some_iff.mp ea).1
        rw [ea] at ea'
        cases ea'
        have aq := s6 _ _ aq
        have lL := fl_len mL
        (try walk_at "rd")
        refine ⟨small5 (by simp), fun p7 hp7 => ?_⟩
        generalize g7 : upd H6 p7 _ = G7
        have a7 : G7 p7 = some (.lst (nV [i])) := new_at g7
        have aq := new_sm g7 hp7 _ _ aq
        refine ⟨p7, qa, _, _, rfl, rfl, SqL.of a7, SqL.of aq, small5 (by rw [nV_len, nV_len, lL]; simp; omega), fun p8 hp8 => ?_⟩
        rw [nV_append]
        have s8 := (s6.trans (new_sm g7 hp7)).trans (Same.new (o := .lst (nV ([i] ++ La))) hp8)
        refine r1 _ _ ⟨rs ++ [p8], by rw [e1, List.map_append]; rfl, by simp [e2], s8, fun j r L h1 h2 => ?_⟩
        have hj : j < rs.length ∨ j = rs.length := by
          have := (List.getElem?_eq_some_iff.mp h1).1
          simp at this
          omega
        rcases hj with hj | hj
        · rw [List.getElem?_append_left hj] at h1
          obtain ⟨b1, b2⟩ := h6 j r L h1 h2
          exact ⟨b1, (Same.new hp8) _ _ (new_sm g7 hp7 _ _ b2)⟩
        · subst hj
          rw [List.getElem?_append_right (Nat.le_refl _), Nat.sub_self] at h1
          cases h1
          rw [e2, eL] at h2
          cases h2
          exact ⟨old_none (s6.trans (new_sm g7 hp7)) hp8, upd_same⟩
      · generalize gz : upd H6 pz _ = Gz
        have az := new_at gz
        have sz := new_sm gz hpz
        rw [e1] at az
        have sH := (s3.trans s5).trans (s6.trans sz)
        have b0 := ((s5.trans s6).trans sz) _ _ L3.2.1
        have nz : pz ≠ p0 := Ne.symm (ne_new hpz ((s5.trans s6) _ _ L3.2.1))
        have nrs : ∀ r ∈ rs, r ≠ p0 := fun r hr z => by
          obtain ⟨j, hj, e⟩ := List.mem_iff_getElem.mp hr
          have hj2 : j < (fl l' i).length := by rw [← L5.2.2.1]; rw [List.length_map] at e2; omega
          have := (h6 j r _ (by rw [List.getElem?_eq_getElem hj, e]) (List.getElem?_eq_getElem hj2)).1
          rw [z, s5 _ _ L3.2.1] at this
          cases this
        refine ⟨p0, pz, _, _, rfl, rfl, b0, az, small5 (by rw [List.length_map, List.length_map]; rw [List.length_map] at e2; omega), ?_⟩
        refine hN _ _ ⟨_, ps ++ rs, rfl, sH.upd hp0, ?_, fun r hr => ?_⟩
        · rw [fl_succ]
          refine lsts_app (L3.mono ((s5.trans s6).trans sz)) ?_ (fun j r L h1 h2 => ?_) hne fun r hr => ?_
          · rw [e2, List.length_map, List.length_map, L5.2.2.1]
          · rw [List.getElem?_map] at h2
            cases eL : (fl l' i)[j]? with
            | none => rw [eL] at h2; cases h2
            | some L' =>
              rw [eL] at h2
              cases h2
              obtain ⟨b1, b2⟩ := h6 j r L' h1 eL
              exact ⟨old_none (s3.trans s5) b1, sz _ _ b2⟩
          · exact nrs r hr
        · rcases List.mem_append.mp hr with z | z
          · exact hne r z
          · exact nrs r z
    · rintro σ H3 ⟨v, ps, rfl, s3, L3, hne⟩
      (try walk_at "rd")
      exact q p0 ps _ s3 L3
theorem z_falling_lists {f : Addr} {fd : FuncData} (F : Fun K "falling_lists" "falling_lists" s_falling_lists f fd) : FnOk P w K mg base CX0 (1 + 0) f fd ["length", "most"] (spFl K 0) := by
  refine F.ok (k := 0) sc_falling_lists (fun vs H Q E h => ?_) (fun cdv A outer s H vs Q E hr h => ?_)
  · obtain ⟨_, _, rfl, h⟩ := h
    exact absurd h id
  · obtain ⟨_, _, rfl, h⟩ := h
    exact absurd h id
abbrev s_given_out : Stmt := top 37
theorem sc_given_out : FnScope ["many", "lists", "falling", "weights", "names", "weight", "k"] ["many", "lists", "falling"] (defScope s_given_out) := ⟨rfl, rfl, rfl, by decide +kernel, rfl, by decide +kernel, by decide +kernel⟩
theorem nV_set (L : List Nat) (j b : Nat) : (nV L).set j (V.int (b : Nat)) = nV (L.set j b) := by
  rw [nV, nV, nI, nI, List.map_set, List.map_set]
theorem ixN_of {n j : Nat} (h : j < n) : ixN n (j : Int) = some j := by
  unfold ixN
  rw [if_pos (by omega), if_pos (by omega), Int.toNat_natCast]
theorem rep_nought (m : Nat) : (List.replicate ((m : Int).toNat) [V.int 0]).flatten = nV (List.replicate m 0) := by
  rw [Int.toNat_natCast]
  induction m with
  | zero => rfl
  | succ m ih => rw [List.replicate_succ, List.flatten_cons, ih, List.replicate_succ]; rfl
def spGiven (K : PySem.W.Frag) : Sp := sp3 fun x y z H Q => ∃ (m : Nat) (p : Addr) (ps : List Addr) (LL : List (List Nat)) (pf : Addr) (F : List Nat), x = .int (m : Nat) ∧ m ≤ 8 ∧ y = .ref p ∧ H p = some (.lst (ps.map V.ref)) ∧ ps.length = LL.length ∧ (∀ (j : Nat) (r : Addr) (L : List Nat), ps[j]? = some r → LL[j]? = some L → H r = some (.lst (nV L))) ∧ z = .ref pf ∧ H pf = some (.lst (nV F)) ∧ F.length = LL.length ∧ LL.flatten.Nodup ∧ (∀ k ∈ LL.flatten, k < m) ∧ ∀ (p' : Addr) (N : List Nat) (H' : Hp), H p' = none → Same H H' → H' p' = some (.lst (nV N)) → Gvn m LL F N → Q (.ref p') H'
theorem flat_apart {LL : List (List Nat)} (h : LL.flatten.Nodup) {i j : Nat} (hij : j < i) {L M : List Nat} (e1 : LL[j]? = some L) (e2 : LL[i]? = some M) {k : Nat} (h1 : k ∈ L) (h2 : k ∈ M) : False := by
  unfold List.Nodup at h
  rw [List.pairwise_flatten] at h
  obtain ⟨l1, e1⟩ := List.getElem?_eq_some_iff.mp e1
  obtain ⟨l2, e2⟩ := List.getElem?_eq_some_iff.mp e2
  have := List.pairwise_iff_getElem.mp h.2 j i l1 l2 hij
  rw [e1, e2] at this
  exact this k h1 k h2 rfl
set_option maxHeartbeats 4000000 in
theorem ok_given_out {f : Addr} {fd : FuncData} (F : Fun K "given_out" "given_out" s_given_out f fd) (T : Txt mg)  : FnOk P w K mg base CX0 1 f fd ["many", "lists", "falling"] (spGiven K) := by
  have sc := sc_given_out
  refine F.ok sc_given_out (fun vs H Q E h => ?_) (fun cdv A outer s H vs Q E hr h => ?_)
  · obtain ⟨_, _, _, rfl, _⟩ := h
    rfl
  · obtain ⟨x0, x1, x2, rfl, h⟩ := h
    refine ⟨_, (pss_cons (ps_set (i := 3) sc.nd rfl (Or.inl rfl) (pe_op op_rep (pe_lst (pa_cons pe_int pa_nil)) (pv 0)))
      (pss_cons (ps_for PassesOwn.never rfl (pi_zip (K := K) rfl (by rfl) T.n_zip (pa_cons (pv 1) (pa_cons (pv 2) pa_nil))) (pg_tup (n := 2) rfl (pgs_cons (pg_name (i := 4) sc.nd rfl (Or.inl rfl)) (pgs_cons (pg_name (i := 5) sc.nd rfl (Or.inl rfl)) pgs_nil))) (pss_one (ps_for PassesOwn.never rfl (pi_list (pv 4)) (pg_name (i := 6) sc.nd rfl (Or.inl rfl)) (pss_one (ps_asg (pv 5) (pg_sub (pv 3) (pv 6) set_list))))))
      (pss_one (ps_ret (pv 3))))), ?_⟩
    refine rdg (σ' := [some x0, some x1, some x2, none, none, none, none]) rfl ?_
    obtain ⟨m, p, ps, LL, pf, F, rfl, hm, rfl, f1, lps, hps, rfl, f2, lF, nd, hlt, q⟩ := h
    walk_at "rd"
    refine ⟨small5 (by simp), fun pz hpz => ?_⟩
    generalize gz : upd H pz _ = Gz
    have az := new_at gz
    have tz := new_sm gz hpz
    refine ⟨pz, m, _, rfl, rfl, az, by omega, by omega, small5 (by simp; omega), fun p0 hp0 => ?_⟩
    rw [rep_nought]
    generalize g0 : upd Gz p0 _ = G0
    have a0 := new_at g0
    have t0 := tz.trans (new_sm g0 hp0)
    have hp0' := old_none tz hp0
    (try walk_at "rd")
    refine ⟨_, _, ⟨rfl, rfl⟩, _, SqL.of (t0 _ _ f1), _, SqL.of (t0 _ _ f2), ?_⟩
    refine loopZn (xs := ps.map V.ref) (ys := nV F) (by rw [nV_len, List.length_map]; omega) (fun i σ H3 => ∃ (v1 v2 v3 : Option V) (N : List Nat), σ = [some (.int (m : Nat)), some (.ref p), some (.ref pf), some (.ref p0), v1, v2, v3] ∧ Same H H3 ∧ H3 p0 = some (.lst (nV N)) ∧ N.length = m ∧ ∀ (j : Nat) (L : List Nat) (v : Nat), j < i → LL[j]? = some L → F[j]? = some v → ∀ k ∈ L, N.getD k 0 = v) ⟨none, none, none, _, rfl, t0, a0, by simp, fun j L v z => absurd z (Nat.not_lt_zero j)⟩ (fun i σ H3 _ ⟨_, _, _, _, _, s3, _⟩ => ⟨SqL.of (s3 _ _ f1), SqL.of (s3 _ _ f2)⟩) ?_ ?_
    · rintro i x y σ H3 t hx hy ⟨v1, v2, v3, N0, rfl, s3, b0, lN, g3⟩ ht N hN
      obtain ⟨qa, ea, rfl⟩ := refs_get hx
      obtain ⟨w, ew, rfl⟩ := nV_get hy
      have hi : i < LL.length := by rw [← lps]; exact (List.getElem?_eq_some_iff.mp ea).1
      have eL := List.getElem?_eq_getElem hi
      generalize LL[i] = La at eL
      have aq := s3 _ _ (hps i qa La ea eL)
      have nqa : qa ≠ p0 := ne_new hp0' (hps i qa La ea eL)
      (try walk_at "rd")
      generalize g4 : upd H3 t _ = G4
      have a4 := new_at g4
      have s4 := s3.trans (new_sm g4 ht)
      have b4 := new_sm g4 ht _ _ b0
      have aq4 := new_sm g4 ht _ _ aq
      refine ⟨_, SqT.of a4, rfl, _, _, rfl, _, _, rfl, rfl, qa, rfl, ⟨_, SqL.of aq4⟩, ?_⟩
      refine loopNn (fs := La) (fun k σ H5 => ∃ (v3 : Option V) (N1 : List Nat), σ = [some (.int (m : Nat)), some (.ref p), some (.ref pf), some (.ref p0), some (.ref qa), some (.int (w : Nat)), v3] ∧ Same H H5 ∧ H5 p0 = some (.lst (nV N1)) ∧ H5 qa = some (.lst (nV La)) ∧ N1.length = m ∧ (∀ (j : Nat) (L : List Nat) (v : Nat), j < i → LL[j]? = some L → F[j]? = some v → ∀ k ∈ L, N1.getD k 0 = v) ∧ ∀ k' ∈ La.take k, N1.getD k' 0 = w) ⟨_, N0, rfl, s4, b4, aq4, lN, g3, fun k' z => (by simp at z)⟩ (fun k σ H5 _ ⟨_, _, _, _, _, e, _⟩ => SqL.of e) ?_ ?_
      · rintro k b σ H5 hb ⟨v, N1, rfl, s5, b5, aq5, lN1, g5, g6⟩ N2 hN2
        (try walk_at "rd")
        have bm : b ∈ La := List.mem_of_getElem? hb
        have hbm : b < m := hlt b (List.mem_flatten.mpr ⟨La, List.mem_of_getElem? eL, bm⟩)
        refine ⟨p0, _, _, b, rfl, rfl, b5, ixN_of (by rw [nV_len]; omega), ?_⟩
        rw [nV_set]
        have gs : ∀ k', (N1.set b w).getD k' 0 = if b = k' then w else N1.getD k' 0 := fun k' => by
          rw [List.getD_eq_getElem?_getD, List.getElem?_set, List.getD_eq_getElem?_getD]
          by_cases c : b = k'
          · rw [if_pos c, if_pos c, if_pos (by omega)]; rfl
          · rw [if_neg c, if_neg c]
        refine hN2 _ _ ⟨_, N1.set b w, rfl, s5.upd hp0', upd_same, by rw [upd_ne nqa]; exact aq5, by simp [lN1], fun j L v hj h1 h2 k' hk' => ?_, fun k' hk' => ?_⟩
        · rw [gs, if_neg (fun z : b = k' => flat_apart nd hj h1 eL hk' (z ▸ bm))]
          exact g5 j L v hj h1 h2 k' hk'
        · rw [gs]
          by_cases c : b = k'
          · rw [if_pos c]
          · rw [if_neg c]
            rw [List.take_add_one, hb] at hk'
            rcases List.mem_append.mp hk' with z | z
            · exact g6 k' z
            · exact absurd (show b = k' by have z' : k' = b := (by simpa using z); exact z'.symm) c
      · rintro σ H5 ⟨v, N1, rfl, s5, b5, aq5, lN1, g5, g6⟩
        refine hN _ _ ⟨_, _, _, N1, rfl, s5, b5, lN1, fun j L v hj h1 h2 k hk => ?_⟩
        by_cases c : j = i
        · subst c
          rw [eL] at h1
          rw [ew] at h2
          cases h1
          cases h2
          exact g6 k (by rw [List.take_length]; exact hk)
        · exact g5 j L v (by omega) h1 h2 k hk
    · rintro σ H3 ⟨v1, v2, v3, N0, rfl, s3, b0, lN, g3⟩
      (try walk_at "rd")
      exact q p0 N0 _ hp0' s3 b0 ⟨lN, fun j L v h1 h2 => g3 j L v (by rw [List.length_map, lps]; exact (List.getElem?_eq_some_iff.mp h1).1) h1 h2⟩
abbrev s_weighed : Stmt := top 35
theorem sc_weighed : FnScope ["many", "family", "lists", "yes", "no", "falling", "weights", "bar"] ["many", "family", "lists"] (defScope s_weighed) := ⟨rfl, rfl, rfl, by decide +kernel, rfl, by decide +kernel, by decide +kernel⟩
def spWgd (K : PySem.W.Frag) : Sp := sp3 fun x y z H Q => ∃ (m : Nat) (p pl : Addr) (fs : List Nat) (ps : List Addr) (H0 : Hp), x = .int (m : Nat) ∧ m ≤ 5 ∧ y = .ref p ∧ H p = some (.lst (nV fs)) ∧ fs.length ≤ 63 ∧ fs.Pairwise (· < ·) ∧ (∀ b ∈ fs, b < 2 ^ m) ∧ NoAp m (Fam.sayP fs) m 0 ∧ z = .ref pl ∧ Lsts H0 H pl (rkd (Fam.trns m (Fam.sayP fs))) ps ∧
  ∀ (t pw : Addr) (N : List Nat) (b : Nat) (H' : Hp), Same H H' → H t = none → H pw = none → H' t = some (.tup [.str "weights", .ref pw, .int (b : Nat)]) → H' pw = some (.lst (nV N)) → N.length = m → (∀ s, s < 2 ^ m → Fam.sayP fs s = decide (b ≤ Fam.wt N s)) → Q (.ref t) H'
theorem nonT2 {A B : Prop} [Decidable (V.non = V.non)] (h : A) : if V.non = V.non then A else B := by
  rw [if_pos rfl]
  exact h
theorem nonF2 {b : Int} {A B : Prop} [Decidable (V.int b = V.non)] (h : B) : if V.int b = V.non then A else B := by
  rw [if_neg (fun z => by cases z)]
  exact h
set_option maxHeartbeats 4000000 in
theorem ok_weighed {f : Addr} {fd : FuncData} (F : Fun K "weighed" "weighed" s_weighed f fd) (T : Txt mg) {f_least : Addr} {fd_least : FuncData} (C_least : Cal P w K mg base "least" 3 ["some"] (spLeast K) f_least fd_least) {f_noes_by : Addr} {fd_noes_by : FuncData} (C_noes_by : Cal P w K mg base "noes_by" 4 ["many", "family"] (spNoesBy K) f_noes_by fd_noes_by) {f_falling_lists : Addr} {fd_falling_lists : FuncData} (C_falling_lists : Cal P w K mg base "falling_lists" 7 ["length", "most"] (spFl K 6) f_falling_lists fd_falling_lists) {f_given_out : Addr} {fd_given_out : FuncData} (C_given_out : Cal P w K mg base "given_out" 1 ["many", "lists", "falling"] (spGiven K) f_given_out fd_given_out) {f_bar_between : Addr} {fd_bar_between : FuncData} (C_bar_between : Cal P w K mg base "bar_between" 3 ["weights", "yes", "no"] (spBarB K) f_bar_between fd_bar_between) : FnOk P w K mg base CX0 8 f fd ["many", "family", "lists"] (spWgd K) := by
  have sc := sc_weighed
  refine F.ok sc_weighed (fun vs H Q E h => ?_) (fun cdv A outer s H vs Q E hr h => ?_)
  · obtain ⟨_, _, _, rfl, _⟩ := h
    rfl
  · obtain ⟨x0, x1, x2, rfl, h⟩ := h
    refine ⟨_, (pss_cons (ps_set (i := 3) sc.nd rfl (Or.inl rfl) (pe_cal C_least hr (by decide) (by rfl) (pa_cons (pv 1) pa_nil)))
      (pss_cons (ps_set (i := 4) sc.nd rfl (Or.inl rfl) (pe_cal C_noes_by hr (by decide) (by rfl) (pa_cons (pv 0) (pa_cons (pv 1) pa_nil))))
      (pss_one (ps_for PassesOwn.never rfl (pi_listK (K := K) rfl (pe_cal C_falling_lists hr (by decide) (by rfl) (pa_cons (pe_callB (call_lenK (K := K) rfl) (by rfl) T.n_len PySem.boot_len (pa_cons (pv 2) pa_nil)) (pa_cons (pe_const T.c_MOST_WEIGHT (by rfl)) pa_nil)))) (pg_name (i := 5) sc.nd rfl (Or.inl rfl)) (pss_cons (ps_set (i := 6) sc.nd rfl (Or.inl rfl) (pe_cal C_given_out hr (by decide) (by rfl) (pa_cons (pv 0) (pa_cons (pv 2) (pa_cons (pv 5) pa_nil)))))
      (pss_cons (ps_set (i := 7) sc.nd rfl (Or.inl rfl) (pe_cal C_bar_between hr (by decide) (by rfl) (pa_cons (pv 6) (pa_cons (pv 3) (pa_cons (pv 4) pa_nil)))))
      (pss_one (ps_if (pt_cmpR op_isnotP (pv 7) pe_non (nomark _)) (pss_one (ps_ret (pe_tup (pa_cons pe_str (pa_cons (pv 6) (pa_cons (pv 7) pa_nil)))))) pss_nil)))))))), ?_⟩
    refine rdg (σ' := [some x0, some x1, some x2, none, none, none, none, none]) rfl ?_
    obtain ⟨m, p, pl, fs, ps, H0, rfl, hm, rfl, f1, lf, hr, hb, hno, rfl, L0, q⟩ := h
    have h8 : m ≤ 8 := by omega
    have p8 : 2 ^ m ≤ 256 := Nat.pow_le_pow_right (n := 2) (by decide) h8
    have lk : (rkd (Fam.trns m (Fam.sayP fs))).length ≤ 5 := Nat.le_trans (rkd_len _) (by rw [trns_len]; exact hm)
    walk_at "rd"
    refine ⟨_, rfl, p, fs, rfl, SqL.of f1, lf, fun H1 py hpy s1 a1 => ?_⟩
    have f1' := s1 _ _ f1
    (try walk_at "rd")
    refine ⟨_, _, rfl, m, p, fs, rfl, hm, rfl, f1', fun H2 pn hpn s2 a2 => ?_⟩
    have a1 := s2 _ _ a1
    have s12 := s1.trans s2
    have L2 := L0.mono s12
    rw [sd_self hr] at a1
    (try walk_at "rd")
    generalize eLL : rkd (Fam.trns m (Fam.sayP fs)) = LL at *
    refine ⟨_, .inl (SqL.of L2.2.1), ?_⟩
    rw [List.length_map, L2.2.2.1]
    refine ⟨_, _, rfl, LL.length, 6, rfl, by omega, by omega, rfl, by omega, fun pa qs H3 s3 L3 => ?_⟩
    have lm : (Fam.mins fs).length ≤ 1000 := Nat.le_trans (Fam.pick_len _ _) (by omega)
    have lo : (Fam.rsts m (Fam.hits m fs)).length ≤ 256 := by
      unfold Fam.rsts
      rw [List.length_reverse, List.length_map]
      exact Nat.le_trans (Fam.pick_len _ _) (by rw [List.length_range]; exact p8)
    refine ⟨pa, rfl, ⟨_, SqL.of L3.2.1⟩, loopLn (xs := qs.map V.ref) (fun i σ H4 => ∃ (v1 v2 v3 : Option V), σ = [some (.int (m : Nat)), some (.ref p), some (.ref pl), some (.ref py), some (.ref pn), v1, v2, v3] ∧ Same H3 H4 ∧ ∀ (j : Nat) (F : List Nat), j < i → (fl LL.length 6)[j]? = some F → ∀ N, Gvn m LL F N → ∃ s ∈ Fam.mins fs, ∃ t ∈ Fam.rsts m (Fam.hits m fs), Fam.wt N s ≤ Fam.wt N t) ⟨none, none, none, rfl, Same.refl _, fun j F z => absurd z (Nat.not_lt_zero j)⟩ (fun i σ H4 _ ⟨_, _, _, _, s4, _⟩ => SqL.of (s4 _ _ L3.2.1)) ?_ ?_⟩
    · rintro i x σ H4 hx ⟨v1, v2, v3, rfl, s4, g4⟩ N hN
      obtain ⟨qa, ea, rfl⟩ := refs_get hx
      obtain ⟨qa', F, ea', eF, mF, aq⟩ := L3.at (List.getElem?_eq_some_iff.mp ea).1
      rw [ea] at ea'
      cases ea'
      have aq := s4 _ _ aq
      have L4 := L2.mono (s3.trans s4)
      have fl1 : ∀ k ∈ LL.flatten, k < m := fun k hk => by
        rw [← eLL] at hk
        have := rkd_flat.mp hk
        rwa [trns_len] at this
      have nd : LL.flatten.Nodup := by rw [← eLL]; exact rkd_nodup _
      (try walk_at "rd")
      refine ⟨_, _, _, rfl, m, pl, ps, LL, qa, F, rfl, h8, rfl, L4.2.1, L4.2.2.1, fun j r L h1 h2 => (L4.2.2.2 j r L h1 h2).2, rfl, aq, fl_len mF, nd, fl1, fun pw W H5 hpw s5 a5 gv => ?_⟩
      (try walk_at "rd")
      have s5' := (s3.trans s4).trans s5
      have lW : W.length = m := gv.1
      refine ⟨_, _, _, rfl, pw, py, pn, W, Fam.mins fs, Fam.rsts m (Fam.hits m fs), rfl, a5, by omega, rfl, s5' _ _ a1, fun b h => by rw [lW]; exact hb b (Fam.mins_sub hr b h), lm, rfl, s5' _ _ a2, fun b h => by rw [lW]; exact Fam.rsts_lt b h, by omega, fun r H6 s6 hB => ?_⟩
      (try walk_at "rd")
      rcases hB with ⟨b, rfl, b1, b2⟩ | ⟨rfl, hx'⟩
      · refine ⟨rfl, true, by simp, iteT ⟨small5 (by simp), fun t ht => ?_⟩⟩
        have s7 := (s12.trans s5').trans s6
        refine q t pw W b _ (s7.trans (Same.new ht)) (old_none s7 ht) (old_none (s12.trans (s3.trans s4)) hpw) upd_same (Same.new ht _ _ (s6 _ _ a5)) lW fun s hs => ?_
        cases e : Fam.sayP fs s with
        | true =>
          rw [← Fam.say_mins hr] at e
          obtain ⟨c, hc, sc⟩ := Fam.sayP_iff.mp e
          exact (decide_eq_true (Nat.le_trans (b1 c hc) (Fam.wt_sub sc))).symm
        | false =>
          have := Fam.held_rests hr hb hs
          rw [e] at this
          obtain ⟨c, hc, sc⟩ := Fam.heldP_iff.mp this
          have h1 := b2 c hc
          have h2 := Fam.wt_sub (ws := W) sc
          exact (decide_eq_false (by omega)).symm
      · refine ⟨rfl, false, by simp, iteF ?_⟩
        refine hN _ _ ⟨_, _, _, rfl, (s4.trans s5).trans s6, fun j G hj eG M gM => ?_⟩
        by_cases c : j = i
        · subst c
          rw [eF] at eG
          cases eG
          have : M = W := by
            rw [← eLL] at gM gv
            have lF := fl_len mF
            rw [← eLL] at lF
            have e := trns_len m (Fam.sayP fs)
            exact gvn_eq lF (by rw [e]; exact gM) (by rw [e]; exact gv)
          rw [this]
          exact hx'
        · exact g4 j G (by omega) eG M gM
    · rintro σ H4 ⟨v1, v2, v3, rfl, s4, g4⟩
      exfalso
      obtain ⟨F, N, b, lF, pF, F5, gv, hf⟩ := weigh5 hm (Fam.up_say m fs) hno
      rw [eLL] at lF gv
      have mF := mem_fl (M := 6) pF fun x hx => by have := F5 x hx; omega
      rw [lF] at mF
      obtain ⟨j, hj, e⟩ := List.mem_iff_getElem.mp mF
      have lq : qs.length = (fl LL.length 6).length := L3.2.2.1
      obtain ⟨s, hs, t, ht, hle⟩ := g4 j F (by rw [List.length_map]; omega) (by rw [List.getElem?_eq_getElem hj, e]) N gv
      have s1 : Fam.sayP fs s = true := Fam.sayP_iff.mpr ⟨s, Fam.mins_sub hr s hs, Fam.sub_refl s⟩
      have s2 : Fam.heldP (Fam.rsts m (Fam.hits m fs)) t = true := Fam.heldP_iff.mpr ⟨t, ht, Fam.sub_refl t⟩
      rw [Fam.held_rests hr hb (Fam.rsts_lt t ht)] at s2
      rw [hf s (hb s (Fam.mins_sub hr s hs)), decide_eq_true_eq] at s1
      rw [hf t (Fam.rsts_lt t ht)] at s2
      have : ¬ b ≤ Fam.wt N t := by simpa using s2
      omega
abbrev s_by_weights : Stmt := top 33
theorem sc_by_weights : FnScope ["many", "family", "told"] ["many", "family"] (defScope s_by_weights) := ⟨rfl, rfl, rfl, by decide +kernel, rfl, by decide +kernel, by decide +kernel⟩
/-- what by_weights tells, its objects new to H0 -/
def Vtd (H0 H : Hp) (m : Nat) (f : Nat → Bool) (t : Addr) : Prop := H0 t = none ∧ ((NoAp m f m 0 ∧ ∃ (pw : Addr) (N : List Nat) (b : Nat), H0 pw = none ∧ H t = some (.tup [.str "weights", .ref pw, .int (b : Nat)]) ∧ H pw = some (.lst (nV N)) ∧ N.length = m ∧ ∀ s, s < 2 ^ m → f s = decide (b ≤ Fam.wt N s)) ∨
  ∃ (x y s u : Nat) (p1 p2 : Addr) (ys ns : List Nat), x < y ∧ y < m ∧ Fam.part m f x y = some s ∧ Fam.part m f y x = some u ∧ H0 p1 = none ∧ H0 p2 = none ∧ p1 ≠ p2 ∧ H t = some (.tup [.str "trade", .ref p1, .ref p2]) ∧ H p1 = some (.lst (nV ys)) ∧ H p2 = some (.lst (nV ns)) ∧ ys.Perm [s ||| 2 ^ x, u ||| 2 ^ y] ∧ ns.Perm [s ||| 2 ^ y, u ||| 2 ^ x])
theorem Vtd.mono {H0 H H' : Hp} {m : Nat} {f : Nat → Bool} {t : Addr} (h : Vtd H0 H m f t) (s : Same H H') : Vtd H0 H' m f t := by
  obtain ⟨h0, ⟨h1, pw, N, b, h2, h3, h4, h5⟩ | ⟨x, y, u, v, p1, p2, ys, ns, h1, h2, h3, h4, h5, h6, h7, h8, h9, h10, h11⟩⟩ := h
  · exact ⟨h0, .inl ⟨h1, pw, N, b, h2, s _ _ h3, s _ _ h4, h5⟩⟩
  · exact ⟨h0, .inr ⟨x, y, u, v, p1, p2, ys, ns, h1, h2, h3, h4, h5, h6, h7, s _ _ h8, s _ _ h9, s _ _ h10, h11⟩⟩
theorem Vtd.back {H0 H1 H : Hp} {m : Nat} {f : Nat → Bool} {t : Addr} (h : Vtd H1 H m f t) (s : Same H0 H1) : Vtd H0 H m f t := by
  obtain ⟨h0, ⟨h1, pw, N, b, h2, h3, h4, h5⟩ | ⟨x, y, u, v, p1, p2, ys, ns, h1, h2, h3, h4, h5, h6, h7, h8, h9, h10, h11⟩⟩ := h
  · exact ⟨old_none s h0, .inl ⟨h1, pw, N, b, old_none s h2, h3, h4, h5⟩⟩
  · exact ⟨old_none s h0, .inr ⟨x, y, u, v, p1, p2, ys, ns, h1, h2, h3, h4, old_none s h5, old_none s h6, h7, h8, h9, h10, h11⟩⟩
def spBy (K : PySem.W.Frag) (cT : Addr) : Sp := sp2x fun x y H Q E => ∃ (m : Nat) (p : Addr) (fs : List Nat), x = .int (m : Nat) ∧ y = .ref p ∧ H p = some (.lst (nV fs)) ∧ fs.length ≤ 63 ∧ fs.Pairwise (· < ·) ∧ (∀ b ∈ fs, b < 2 ^ m) ∧ (m ≤ 5 → ∀ t H', Same H H' → Vtd H H' m (Fam.sayP fs) t → Q (.ref t) H') ∧ (5 < m → E (.ref cT) none H)
set_option maxHeartbeats 4000000 in
theorem ok_by_weights {f : Addr} {fd : FuncData} (F : Fun K "by_weights" "by_weights" s_by_weights f fd) (T : Txt mg) {cT cH cF cD cN cX : Addr} (Z : Xt K mg cT cH cF cD cN cX) {f_ranks : Addr} {fd_ranks : FuncData} (C_ranks : Cal P w K mg base "ranks" 5 ["many", "family"] (spRanks K) f_ranks fd_ranks) {f_weighed : Addr} {fd_weighed : FuncData} (C_weighed : Cal P w K mg base "weighed" 8 ["many", "family", "lists"] (spWgd K) f_weighed fd_weighed) {f_traded : Addr} {fd_traded : FuncData} (C_traded : Cal P w K mg base "traded" 1 ["x", "y", "s", "t"] spTraded f_traded fd_traded) : FnOk P w K mg base (CX1 P w) 9 f fd ["many", "family"] (spBy K cT) := by
  have sc := sc_by_weights
  refine F.okX sc_by_weights (fun vs H Q E h => ?_) (fun cdv A outer s H vs Q E hr h => ?_)
  · obtain ⟨_, _, rfl, _⟩ := h
    rfl
  · obtain ⟨x0, x1, rfl, h⟩ := h
    refine ⟨_, (pss_cons (ps_if (pt_cmpR op_gt (pv 0) (pe_const T.c_MOST_VOTERS (by rfl)) (nomark _)) (pss_one (ps_raise (by rfl) Z.gT Z.xT PySem.F.excBase_ValueError rfl throws_cx pe_str)) pss_nil)
      (pss_cons (ps_set (i := 2) sc.nd rfl (Or.inl rfl) (pe_cal C_ranks hr (by decide) (by rfl) (pa_cons (pv 0) (pa_cons (pv 1) pa_nil))))
      (pss_cons (ps_if (pt_cmpR (op_eqK (K := K) rfl hr.units0) (pe_ix (ix_K (K := K) rfl) (pv 2) pe_int (fun _ _ => rfl)) pe_str (nomark _)) (pss_one (ps_ret (pe_cal C_traded hr (by decide) (by rfl) (pa_cons (pe_ix (ix_K (K := K) rfl) (pv 2) pe_int (fun _ _ => rfl)) (pa_cons (pe_ix (ix_K (K := K) rfl) (pv 2) pe_int (fun _ _ => rfl)) (pa_cons (pe_ix (ix_K (K := K) rfl) (pv 2) pe_int (fun _ _ => rfl)) (pa_cons (pe_ix (ix_K (K := K) rfl) (pv 2) pe_int (fun _ _ => rfl)) pa_nil))))))) pss_nil)
      (pss_one (ps_ret (pe_cal C_weighed hr (by decide) (by rfl) (pa_cons (pv 0) (pa_cons (pv 1) (pa_cons (pe_ix (ix_K (K := K) rfl) (pv 2) pe_int (fun _ _ => rfl)) pa_nil))))))))), ?_⟩
    refine rdg (σ' := [some x0, some x1, none]) rfl ?_
    obtain ⟨m, p, fs, rfl, rfl, f1, lf, hr, hb, q, qx⟩ := h
    walk_at "rd"
    by_cases c : 5 < m
    · rw [if_pos (by omega)]
      exact qx c
    rw [if_neg (by omega)]
    have hm : m ≤ 5 := by omega
    have q := q hm
    refine ⟨_, _, rfl, m, p, fs, rfl, by omega, rfl, f1, fun t H1 s1 R1 => ?_⟩
    (try walk_at "rd")
    obtain ⟨ht, ⟨x, y, s, u, hxy, hy, hno, e1, e2, at1⟩ | ⟨hno, p1, ps, at1, L1⟩⟩ := R1
    · refine ixX_t (SqT.of at1) rfl (eqS true (by decide) ⟨_, rfl, iteT (ixX_t (SqT.of at1) rfl (ixX_t (SqT.of at1) rfl (ixX_t (SqT.of at1) rfl (ixX_t (SqT.of at1) rfl ?_))))⟩)
      refine ⟨_, _, _, _, rfl, x, y, s, u, rfl, rfl, rfl, rfl, by omega, by omega, fun tt p1 p2 ys ns H2 s2 h0 h1 h2 n12 b0 b1 b2 q1 q2 => ?_⟩
      exact q tt H2 (s1.trans s2) ⟨old_none s1 h0, .inr ⟨x, y, s, u, p1, p2, ys, ns, hxy, hy, e1, e2, old_none s1 h1, old_none s1 h2, n12, b0, b1, b2, q1, q2⟩⟩
    · refine ixX_t (SqT.of at1) rfl (eqS false (by decide) ⟨_, rfl, iteF (ixX_t (SqT.of at1) rfl ?_)⟩)
      refine ⟨_, _, _, rfl, m, p, p1, fs, ps, H, rfl, hm, rfl, s1 _ _ f1, lf, hr, hb, hno, rfl, L1, fun tt pw N b H2 s2 h0 h1 b0 b1 lN hf => ?_⟩
      exact q tt H2 (s1.trans s2) ⟨old_none s1 h0, .inl ⟨hno, pw, N, b, old_none s1 h1, b0, b1, lN, hf⟩⟩
abbrev s__law_cells : Stmt := top 40
theorem sc__law_cells : FnScope ["_law_script", "_law_amount", "_law_cells_here", "_law_number"] ["_law_script", "_law_amount"] (defScope s__law_cells) := ⟨rfl, rfl, rfl, by decide +kernel, rfl, by decide +kernel, by decide +kernel⟩
def spCells (K : PySem.W.Frag) : Sp := sp2 fun x y H Q => ∃ (a : Addr) (ns : List Int) (n : Nat), x = .ref a ∧ SqL K H a (ns.map V.int) ∧ ns.length ≤ 63 ∧ y = .int n ∧ n ≤ 63 ∧ ∀ (p : Addr) (cs : List Nat) (H' : Hp), H p = none → Same H H' → H' p = some (.lst (nV cs)) → cs.length = n → Q (.ref p) H'
set_option maxHeartbeats 4000000 in
theorem ok__law_cells {f : Addr} {fd : FuncData} (F : Fun K "_law_cells" "_law_cells" s__law_cells f fd) (T : Txt mg)  : FnOk P w K mg base CX0 1 f fd ["_law_script", "_law_amount"] (spCells K) := by
  have sc := sc__law_cells
  refine F.ok sc__law_cells (fun vs H Q E h => ?_) (fun cdv A outer s H vs Q E hr h => ?_)
  · obtain ⟨_, _, rfl, _⟩ := h
    rfl
  · obtain ⟨x0, x1, rfl, h⟩ := h
    refine ⟨_, (pss_cons (ps_comp (i := 2) sc.nd rfl rfl (by rfl) (N := ["_law_cell"]) (nt := 1) (caps := []) comp_ok rfl (pi_list (pe_slice (sl_K (K := K) rfl) (pv 0) po_none (po_some (pv 1)))) (fun _ _ _ _ _ => (pg_name (i := 0) (show List.Nodup (α := Str) ["_law_cell"] from by decide +kernel) rfl (Or.inl rfl))) gk_name (fun _ _ _ _ _ => pts_nil) (fun _ _ _ _ _ => (pe_op op_mod (pv 0) (pe_op op_pow pe_int pe_int))))
      (pss_cons (ps_set (i := 3) sc.nd rfl (Or.inl rfl) (pe_op op_add pe_int (pe_op op_mod (pe_callB (call_sumL (K := K) rfl rfl) (by rfl) T.n_sum PyProof.Rows.boot_sum (pa_cons (pv 2) pa_nil)) pe_int)))
      (pss_cons (ps_while PassesOwn.never (pt_cmpR op_lt (pe_callB (call_lenK (K := K) rfl) (by rfl) T.n_len PySem.boot_len (pa_cons (pv 2) pa_nil)) (pv 1) (nomark _)) (pss_cons (ps_set (i := 3) sc.nd rfl (Or.inl rfl) (pe_op op_mod (pe_op op_add (pe_op op_add (pe_op op_mul (pv 3) (pv 3)) (pe_op op_mul pe_int (pe_callB (call_lenK (K := K) rfl) (by rfl) T.n_len PySem.boot_len (pa_cons (pv 2) pa_nil)))) pe_int) pe_int))
      (pss_one (ps_expr (pe_bm PySem.F.plainAttrs_list PySem.F.slot_list_append PySem.F.type_list_append mt_append (pv 2) (pa_cons (pv 3) pa_nil))))))
      (pss_one (ps_ret (pv 2)))))), ?_⟩
    refine rdg (σ' := [some x0, some x1, none, none]) rfl ?_
    obtain ⟨a, ns, n, rfl, hS, hl, rfl, hn, q⟩ := h
    walk_at "rd"
    refine ⟨a, _, rfl, hS, fun p1 hp1 => ?_⟩
    rw [cut_take, ← List.map_take]
    have ln : (ns.take n).length ≤ n := by rw [List.length_take]; omega
    generalize ns.take n = ks at ln ⊢
    generalize g1 : upd H p1 _ = G1
    have a1 := new_at g1
    have t1 := new_sm g1 hp1
    refine ⟨p1, rfl, ⟨_, SqL.of a1⟩, ?_⟩
    refine compLs (fs := ks.map V.int) (fun _ => true) (fun v => match v with | .int i => .int ((i % 10 ^ 40).toNat : Nat) | _ => .non) (SqL.of a1) (by rw [List.length_map]; omega) (fun x hx H1 sm R R' r1 r2 => ?_) fun G2 p2 t2 hp2 => ?_
    · obtain ⟨z, _, rfl⟩ := List.mem_map.mp hx
      (try walk_at "rd")
      refine ⟨cpow_of (by decide) (by decide) (by decide) (by decide), by decide, ?_⟩
      have e : z % 10 ^ Int.toNat 40 = (((z % 10 ^ 40).toNat : Nat) : Int) := by
        have := Int.emod_nonneg z (show (10 : Int) ^ 40 ≠ 0 by decide)
        rw [Int.toNat_of_nonneg this]
        rfl
      rw [e]
      exact r1 rfl _ (Same.refl _)
    have e : ((ks.map V.int).filter fun _ => true).map (fun v => match v with | .int i => V.int ((i % 10 ^ 40).toNat : Nat) | _ => .non) = nV (ks.map fun i => (i % 10 ^ 40).toNat) := by
      rw [List.filter_eq_self.mpr fun _ _ => rfl, nV, nI, List.map_map, List.map_map, List.map_map]
      rfl
    rw [e]
    have lc : (ks.map fun i => (i % 10 ^ 40).toNat).length ≤ n := by rw [List.length_map]; exact ln
    generalize ks.map (fun i => (i % 10 ^ 40).toNat) = cs at lc ⊢
    generalize g2 : upd G2 p2 _ = G3
    have a2 := new_at g2
    have n2 := old_none (t1.trans t2) hp2
    have t3 := (t1.trans t2).trans (new_sm g2 hp2)
    refine ⟨p2, rfl, nI cs, SqL.of a2, by decide, ?_⟩
    have z0 := Int.emod_nonneg (nI cs).sum (show (2147483647 : Int) ≠ 0 by decide)
    have z1 := Int.emod_lt_of_pos (nI cs).sum (show (0 : Int) < 2147483647 by decide)
    refine whileN (fun k σ H4 => ∃ (cs : List Nat) (z : Int), σ = [some (.ref a), some (.int n), some (.ref p2), some (.int z)] ∧ 0 ≤ z ∧ z ≤ 2147483647 ∧ H4 = upd G3 p2 (.lst (nV cs)) ∧ cs.length + k = n) (n - cs.length) ⟨cs, _, rfl, by omega, by omega, upd_self a2, by omega⟩ ?_
    rintro k σ H4 ⟨cs, z, rfl, h0, h1, rfl, hk⟩ T hT
    (try walk_at "rd")
    refine ⟨_, .inl (SqL.of upd_same), ?_⟩
    rw [nV_len]
    refine ite2 (fun hc => hT _ fun N hN => ?_) fun hc => ?_
    · (try walk_at "rd")
      refine ⟨.inl ⟨by omega, by omega⟩, _, .inl (SqL.of upd_same), ?_⟩
      rw [nV_len]
      have y0 := Int.emod_nonneg (z * z + 48271 * (cs.length : Int) + 11) (show (2147483647 : Int) ≠ 0 by decide)
      have y1 := Int.emod_lt_of_pos (z * z + 48271 * (cs.length : Int) + 11) (show (0 : Int) < 2147483647 by decide)
      generalize (z * z + 48271 * (cs.length : Int) + 11) % 2147483647 = y at y0 y1 ⊢
      obtain ⟨w, rfl⟩ := Int.eq_ofNat_of_zero_le y0
      refine ⟨.inl ⟨by decide, by decide⟩, by decide, small5' (by (try rw [nV_len]); omega), ?_⟩
      rw [nV_snoc]
      exact hN (k - 1) _ _ (by omega) ⟨cs ++ [w], w, rfl, by omega, by omega, rfl, by simp; omega⟩
    · (try walk_at "rd")
      exact q p2 cs _ n2 (t3.upd n2) upd_same (by omega)
abbrev s__law_family : Stmt := top 41
theorem sc__law_family : FnScope ["_law_cells_here", "_law_many", "_law_size", "_law_found", "_law_cell", "_law_one"] ["_law_cells_here", "_law_many"] (defScope s__law_family) := ⟨rfl, rfl, rfl, by decide +kernel, rfl, by decide +kernel, by decide +kernel⟩
def spFamily (K : PySem.W.Frag) : Sp := sp2 fun x y H Q => ∃ (p : Addr) (cs : List Nat) (m : Nat), x = .ref p ∧ SqL K H p (nV cs) ∧ cs.length ≤ 63 ∧ y = .int m ∧ m ≤ 8 ∧
  ∀ (p' : Addr) (fs : List Nat) (H' : Hp), H p' = none → Same H H' → H' p' = some (.lst (nV fs)) → fs.Pairwise (· < ·) → (∀ b ∈ fs, b < 2 ^ m) → fs.length ≤ 63 → Q (.ref p') H'
set_option maxHeartbeats 4000000 in
theorem ok__law_family {f : Addr} {fd : FuncData} (F : Fun K "_law_family" "_law_family" s__law_family f fd) (T : Txt mg)  : FnOk P w K mg base CX0 1 f fd ["_law_cells_here", "_law_many"] (spFamily K) := by
  have sc := sc__law_family
  refine F.ok sc__law_family (fun vs H Q E h => ?_) (fun cdv A outer s H vs Q E hr h => ?_)
  · obtain ⟨_, _, rfl, _⟩ := h
    rfl
  · obtain ⟨x0, x1, rfl, h⟩ := h
    refine ⟨_, (pss_cons (ps_set (i := 2) sc.nd rfl (Or.inl rfl) (pe_op op_shl pe_int (pv 1)))
      (pss_cons (ps_set (i := 3) sc.nd rfl (Or.inl rfl) (pe_lst pa_nil))
      (pss_cons (ps_for PassesOwn.never rfl (pi_list (pv 0)) (pg_name (i := 4) sc.nd rfl (Or.inl rfl)) (pss_cons (ps_set (i := 5) sc.nd rfl (Or.inl rfl) (pe_op op_mod (pv 4) (pv 2)))
      (pss_cons (ps_if (pt_cmpR (op_eqK (K := K) rfl hr.units0) (pe_op op_mod (pe_op op_fdivB (pv 4) (pv 2)) pe_int) pe_int (nomark _)) (pss_one (ps_set (i := 5) sc.nd rfl (Or.inl rfl) (pe_op op_and (pv 5) (pe_op op_mod (pe_op op_fdivB (pv 4) (pe_op op_mul pe_int (pv 2))) (pv 2))))) pss_nil)
      (pss_cons (ps_if (PW.pt (pw_and (pt_cmpR (op_eqK (K := K) rfl hr.units0) (pe_op op_mod (pe_op op_fdivB (pv 4) (pv 2)) pe_int) pe_int (nomark _)) (pw_and1 (pt_cmpR op_gt (pv 1) pe_int (nomark _))))) (pss_one (ps_set (i := 5) sc.nd rfl (Or.inl rfl) (pe_op op_or (pe_op op_shl pe_int (pe_op op_mod (pv 4) (pv 1))) (pe_op op_shl pe_int (pe_op op_mod (pe_op op_fdivB (pv 4) pe_int) (pv 1)))))) pss_nil)
      (pss_one (ps_expr (pe_bm PySem.F.plainAttrs_list PySem.F.slot_list_append PySem.F.type_list_append mt_append (pv 3) (pa_cons (pv 5) pa_nil))))))))
      (pss_one (ps_ret (pe_callB (call_sortX (P := P) (w := w) (K := K) rfl rfl rfl rfl) (by rfl) T.n_sorted PyProof.Rows.boot_sorted (pa_cons (pe_callTy (call_setK (P := P) (w := w) (K := K) rfl rfl rfl rfl) (by rfl) T.n_set PyProof.Rows.boot_set (pa_cons (pv 3) pa_nil)) pa_nil))))))), ?_⟩
    refine rdg (σ' := [some x0, some x1, none, none, none, none]) rfl ?_
    obtain ⟨p, cs, m, rfl, hq, hl, rfl, hm, q⟩ := h
    walk_at "rd"
    have pp := Nat.two_pow_pos m
    have p8 : 2 ^ m ≤ 256 := Nat.pow_le_pow_right (n := 2) (by decide) hm
    have big : (256 : Int) * 3 < 2 ^ 200 := by decide
    rw [shl_one]
    refine ⟨cpow_of (by omega) (by omega) (by decide) (by decide), small5 (by simp), fun p0 hp0 => ?_⟩
    generalize g0 : upd H p0 _ = G0
    have a0 := new_at g0
    have t0 := new_sm g0 hp0
    refine ⟨⟨_, t0.seq hq⟩, ?_⟩
    refine loopNn (fs := cs) (fun i σ H3 => ∃ v1 v2 fs, σ = [some (.ref p), some (.int m), some (.int (2 ^ m : Nat)), some (.ref p0), v1, v2] ∧ H3 = upd G0 p0 (.lst (nV fs)) ∧ fs.length = i ∧ ∀ b ∈ fs, b < 2 ^ m) ⟨none, none, [], rfl, upd_self a0, rfl, fun b hb => by cases hb⟩ ?_ ?_ ?_
    · rintro i σ H3 hi ⟨v1, v2, fs, rfl, rfl, _⟩
      exact (t0.upd hp0).seq hq
    · rintro i c σ H3 hc ⟨v1, v2, fs, rfl, rfl, hlen, hb⟩ N0 hN0
      have hi := (List.getElem?_eq_some_iff.mp hc).1
      (try walk_at "rd")
      have e1 : (c : Int) % ((2 ^ m : Nat) : Int) = ((c % 2 ^ m : Nat) : Int) := rfl
      have w1 : c % 2 ^ m < 2 ^ m := Nat.mod_lt _ pp
      rw [e1]
      generalize c % 2 ^ m = one at w1 ⊢
      refine ⟨by omega, ?_⟩
      refine seqCut (fun σ' H2 => ∃ b : Nat, b < 2 ^ m ∧ σ' = [some (.ref p), some (.int m), some (.int (2 ^ m : Nat)), some (.ref p0), some (.int (c : Nat)), some (.int (b : Nat))] ∧ H2 = upd G0 p0 (.lst (nV fs))) ?_ fun N hN => ?_
      rotate_left
      · (try walk_at "rd")
        refine ⟨⟨by omega, by omega⟩, by decide, ite2 (fun h1 => ?_) fun h1 => hN _ _ ⟨one, w1, rfl, rfl⟩⟩
        have e3 : (c : Int) / (3 * ((2 ^ m : Nat) : Int)) % ((2 ^ m : Nat) : Int) = ((c / (3 * 2 ^ m) % 2 ^ m : Nat) : Int) := by
          rw [show (3 : Int) * ((2 ^ m : Nat) : Int) = ((3 * 2 ^ m : Nat) : Int) by omega]
          rfl
        rw [e3, and_nat]
        exact ⟨.inl ⟨by decide, by decide⟩, ⟨by omega, by omega⟩, by omega, hN _ _ ⟨_, Nat.lt_of_le_of_lt Nat.and_le_left w1, rfl, rfl⟩⟩
      rintro σ' H2 ⟨one, w1, rfl, rfl⟩
      refine seqCut (fun σ' H2 => ∃ b : Nat, b < 2 ^ m ∧ σ' = [some (.ref p), some (.int m), some (.int (2 ^ m : Nat)), some (.ref p0), some (.int (c : Nat)), some (.int (b : Nat))] ∧ H2 = upd G0 p0 (.lst (nV fs))) ?_ fun N hN => ?_
      rotate_left
      · (try walk_at "rd")
        refine ⟨⟨by omega, by omega⟩, by decide, ite2 (fun h1 => ite2 (fun h2 => ?_) fun h2 => hN _ _ ⟨one, w1, rfl, rfl⟩) fun h1 => hN _ _ ⟨one, w1, rfl, rfl⟩⟩
        have m0 : 0 < m := by omega
        have e4 : (c : Int) % (m : Int) = ((c % m : Nat) : Int) := rfl
        have e5 : (c : Int) / 8 % (m : Int) = ((c / 8 % m : Nat) : Int) := rfl
        have w4 : c % m < m := Nat.mod_lt _ m0
        have w5 : c / 8 % m < m := Nat.mod_lt _ m0
        rw [e4, e5, shl_one, shl_one, or_nat]
        refine ⟨by omega, cpow_of (by omega) (by omega) (by decide) (by decide), ⟨by decide, by decide⟩, by omega, cpow_of (by omega) (by omega) (by decide) (by decide), hN _ _ ⟨_, ?_, rfl, rfl⟩⟩
        exact Nat.or_lt_two_pow (Nat.pow_lt_pow_right (by decide) w4) (Nat.pow_lt_pow_right (by decide) w5)
      rintro σ' H2 ⟨one, w1, rfl, rfl⟩
      (try walk_at "rd")
      refine ⟨small5' (by rw [nV_len]; omega), hN0 _ _ ⟨_, _, fs ++ [one], rfl, by rw [nV_snoc], by simp [hlen], fun b hb' => ?_⟩⟩
      rcases List.mem_append.mp hb' with z | z
      · exact hb b z
      · rw [show b = one by simpa using z]; exact w1
    · rintro σ H3 ⟨v1, v2, fs, rfl, rfl, hlen, hb⟩
      (try walk_at "rd")
      have t1 : Same H (upd G0 p0 (.lst (nV fs))) := t0.upd hp0
      refine ⟨p0, _, rfl, SqL.of upd_same, by simp; omega, fun p6 hp6 => ?_⟩
      generalize g6 : upd _ p6 _ = G6
      have a6 := new_at g6
      have t6 := t1.trans (new_sm g6 hp6)
      refine ⟨p6, _, rfl, .inr a6, Nat.le_trans (dedup_len _) (by simp; omega), fun p7 ms hp7 m1 m2 => ?_⟩
      rw [sorted_sd m1 m2]
      exact q p7 (sd fs) _ (old_none t6 hp7) (t6.trans (Same.new hp7)) upd_same (sd_rise fs) (fun b hb2 => hb b (mem_sd.mp hb2)) (sd_le fs (by omega))
abbrev s__law_drawn : Stmt := top 42
theorem sc__law_drawn : FnScope ["_law_script", "_law_bound", "_law_cells_here", "_law_many", "_law_amount"] ["_law_script", "_law_bound"] (defScope s__law_drawn) := ⟨rfl, rfl, rfl, by decide +kernel, rfl, by decide +kernel, by decide +kernel⟩
def spDrawn (K : PySem.W.Frag) : Sp := sp2 fun x y H Q => ∃ (a : Addr) (ns : List Int) (n : Nat), x = .ref a ∧ SqL K H a (ns.map V.int) ∧ ns.length ≤ 63 ∧ y = .int n ∧ n ≤ 8 ∧
  ∀ (t p : Addr) (m : Nat) (fs : List Nat) (H' : Hp), m ≤ n → H p = none → Same H H' → H' t = some (.tup [.int m, .ref p]) → H' p = some (.lst (nV fs)) → fs.Pairwise (· < ·) → (∀ b ∈ fs, b < 2 ^ m) → fs.length ≤ 63 → Q (.ref t) H'
set_option maxHeartbeats 4000000 in
theorem ok__law_drawn {f : Addr} {fd : FuncData} (F : Fun K "_law_drawn" "_law_drawn" s__law_drawn f fd) (T : Txt mg) {f__law_cells : Addr} {fd__law_cells : FuncData} (C__law_cells : Cal P w K mg base "_law_cells" 1 ["_law_script", "_law_amount"] (spCells K) f__law_cells fd__law_cells) {f__law_family : Addr} {fd__law_family : FuncData} (C__law_family : Cal P w K mg base "_law_family" 1 ["_law_cells_here", "_law_many"] (spFamily K) f__law_family fd__law_family) : FnOk P w K mg base CX0 2 f fd ["_law_script", "_law_bound"] (spDrawn K) := by
  have sc := sc__law_drawn
  refine F.ok sc__law_drawn (fun vs H Q E h => ?_) (fun cdv A outer s H vs Q E hr h => ?_)
  · obtain ⟨_, _, rfl, _⟩ := h
    rfl
  · obtain ⟨x0, x1, rfl, h⟩ := h
    refine ⟨_, (pss_cons (ps_set (i := 2) sc.nd rfl (Or.inl rfl) (pe_cal C__law_cells hr (by decide) (by rfl) (pa_cons (pv 0) (pa_cons pe_int pa_nil))))
      (pss_cons (ps_set (i := 3) sc.nd rfl (Or.inl rfl) (pe_op op_mod (pe_ix (ix_K (K := K) rfl) (pv 2) pe_int (fun _ _ => rfl)) (pe_op op_add (pv 1) pe_int)))
      (pss_cons (ps_set (i := 4) sc.nd rfl (Or.inl rfl) (pe_op op_mod (pe_ix (ix_K (K := K) rfl) (pv 2) pe_int (fun _ _ => rfl)) pe_int))
      (pss_cons (ps_if (pt_cmpR (op_eqK (K := K) rfl hr.units0) (pe_op op_mod (pe_op op_fdivB (pe_ix (ix_K (K := K) rfl) (pv 2) pe_int (fun _ _ => rfl)) pe_int) pe_int) pe_int (nomark _)) (pss_one (ps_set (i := 4) sc.nd rfl (Or.inl rfl) pe_int)) pss_nil)
      (pss_one (ps_ret (pe_tup (pa_cons (pv 3) (pa_cons (pe_cal C__law_family hr (by decide) (by rfl) (pa_cons (pe_slice (sl_K (K := K) rfl) (pv 2) (po_some pe_int) (po_some (pe_op op_add pe_int (pv 4)))) (pa_cons (pv 3) pa_nil))) pa_nil))))))))), ?_⟩
    refine rdg (σ' := [some x0, some x1, none, none, none]) rfl ?_
    obtain ⟨a, ns, n, rfl, hS, hl, rfl, hn, q⟩ := h
    walk_at "rd"
    refine ⟨_, _, rfl, a, ns, 63, rfl, hS, hl, rfl, by omega, fun p cs H1 hp s1 f1 lc => ?_⟩
    have i0 : cs[0]? = some cs[0] := List.getElem?_eq_getElem (by omega)
    have i1 : cs[1]? = some cs[1] := List.getElem?_eq_getElem (by omega)
    generalize cs[0] = c0 at i0
    generalize cs[1] = c1 at i1
    refine ixX_l (SqL.of f1) (atI_n i0) ?_
    (try walk_at "rd")
    have e0 : (c0 : Int) % ((n : Int) + 1) = ((c0 % (n + 1) : Nat) : Int) := rfl
    have w0 : c0 % (n + 1) ≤ n := by have := Nat.mod_lt c0 (show 0 < n + 1 by omega); omega
    rw [e0]
    generalize c0 % (n + 1) = m at w0 ⊢
    refine ⟨by omega, ixX_l (SqL.of f1) (atI_n i1) ?_⟩
    (try walk_at "rd")
    have e1 : (c1 : Int) % 9 = ((c1 % 9 : Nat) : Int) := rfl
    rw [e1]
    refine ⟨by decide, ?_⟩
    refine seqCut (fun σ' H2 => ∃ k : Nat, k ≤ 60 ∧ σ' = [some (.ref a), some (.int n), some (.ref p), some (.int m), some (.int (k : Nat))] ∧ H2 = H1) ?_ fun N hN => ?_
    rotate_left
    · (try walk_at "rd")
      refine ixX_l (SqL.of f1) (atI_n i1) ?_
      (try walk_at "rd")
      exact ⟨⟨by decide, by decide⟩, by decide, ite2 (fun h1 => hN _ _ ⟨25, by omega, rfl, rfl⟩) fun h1 => hN _ _ ⟨_, by omega, rfl, rfl⟩⟩
    rintro σ' H2 ⟨k, hk, rfl, rfl⟩
    (try walk_at "rd")
    refine ⟨p, _, rfl, SqL.of f1, fun p2 hp2 => ?_⟩
    have e3 : cutV (nV cs) (some 3) (some (3 + (k : Int))) = nV ((cs.drop 3).take k) := by
      rw [show (3 : Int) + (k : Int) = ((3 + k : Nat) : Int) by omega, show (3 : Int) = ((3 : Nat) : Int) from rfl, cut_mid, nV, nV, nI, nI, List.map_take, List.map_drop, List.map_take, List.map_drop, show 3 + k - 3 = k by omega]
    rw [e3]
    generalize g2 : upd H2 p2 _ = G2
    have a2 := new_at g2
    have t2 := s1.trans (new_sm g2 hp2)
    refine ⟨_, _, rfl, p2, _, m, rfl, SqL.of a2, by rw [List.length_take]; omega, rfl, by omega, fun p3 fs G3 hp3 t3 a3 hr hb h63 => ?_⟩
    refine ⟨small5 (by simp), fun t ht => ?_⟩
    have n3 := old_none t2 hp3
    exact q t p3 m fs _ w0 n3 ((t2.trans t3).trans (Same.new ht)) upd_same (new_sm rfl ht _ _ a3) hr hb h63
abbrev s__law_within : Stmt := top 44
theorem sc__law_within : FnScope ["_law_one", "_law_other"] ["_law_one", "_law_other"] (defScope s__law_within) := ⟨rfl, rfl, rfl, by decide +kernel, rfl, by decide +kernel, by decide +kernel⟩
def spWithin : Sp := sp2 fun x y H Q => ∃ a b : Nat, x = .int a ∧ y = .int b ∧ Q (.bl (decide (Fam.sub a b))) H
set_option maxHeartbeats 4000000 in
theorem ok__law_within {f : Addr} {fd : FuncData} (F : Fun K "_law_within" "_law_within" s__law_within f fd) (T : Txt mg)  : FnOk P w K mg base CX0 1 f fd ["_law_one", "_law_other"] spWithin := by
  have sc := sc__law_within
  refine F.ok sc__law_within (fun vs H Q E h => ?_) (fun cdv A outer s H vs Q E hr h => ?_)
  · obtain ⟨_, _, rfl, _⟩ := h
    rfl
  · obtain ⟨x0, x1, rfl, h⟩ := h
    refine ⟨_, (pss_one (ps_ret (pe_cmpR (op_eqK (K := K) rfl hr.units0) (pe_op op_and (pv 0) (pv 1)) (pv 0) (nomark _)))), ?_⟩
    refine rdg (σ' := [some x0, some x1]) rfl ?_
    obtain ⟨a, b, rfl, rfl, q⟩ := h
    walk_at "rd"
    rw [and_nat, show decide (((a &&& b : Nat) : Int) = (a : Int)) = decide (Fam.sub a b) from decide_eq_decide.mpr (by unfold Fam.sub; rw [Nat.and_comm b a]; omega)]
    exact q
abbrev s__law_says : Stmt := top 45
theorem sc__law_says : FnScope ["_law_family_here", "_law_one"] ["_law_family_here", "_law_one"] (defScope s__law_says) := ⟨rfl, rfl, rfl, by decide +kernel, rfl, by decide +kernel, by decide +kernel⟩
def spLSays (K : PySem.W.Frag) : Sp := sp2 fun x y H Q => ∃ (p : Addr) (fs : List Nat) (a : Nat), x = .ref p ∧ H p = some (.lst (nV fs)) ∧ y = .int (a : Nat) ∧ fs.length ≤ 1000 ∧ ∀ H', Same H H' → Q (.bl (Fam.sayP fs a)) H'
set_option maxHeartbeats 4000000 in
theorem ok__law_says {f : Addr} {fd : FuncData} (F : Fun K "_law_says" "_law_says" s__law_says f fd) (T : Txt mg) {f__law_within : Addr} {fd__law_within : FuncData} (C__law_within : Cal P w K mg base "_law_within" 1 ["_law_one", "_law_other"] spWithin f__law_within fd__law_within) : FnOk P w K mg base CX0 2 f fd ["_law_family_here", "_law_one"] (spLSays K) := by
  have sc := sc__law_says
  refine F.ok sc__law_says (fun vs H Q E h => ?_) (fun cdv A outer s H vs Q E hr h => ?_)
  · obtain ⟨_, _, rfl, _⟩ := h
    rfl
  · obtain ⟨x0, x1, rfl, h⟩ := h
    refine ⟨_, (pss_one (ps_ret (pe_cmpR (op_inK (K := K) rfl) pe_bl (pe_comp (N := ["_law_other", "_law_one"]) (nt := 1) (caps := [1]) comp_ok rfl (pi_list (pv 0)) (fun _ _ _ _ _ => (pg_name (i := 0) (show List.Nodup (α := Str) ["_law_other", "_law_one"] from by decide +kernel) rfl (Or.inl rfl))) gk_name (fun _ _ _ _ _ => pts_nil) (fun _ _ _ _ _ => (pe_cal C__law_within hr (by decide) (by rfl) (pa_cons (pv 0) (pa_cons (pv 1) pa_nil))))) (by with_unfolding_all rfl)))), ?_⟩
    refine rdg (σ' := [some x0, some x1]) rfl ?_
    obtain ⟨p, fs, a, rfl, f1, rfl, hl, q⟩ := h
    walk_at "rd"
    refine ⟨⟨_, SqL.of f1⟩, compNs (fs := fs) (fun _ => true) (fun b => .bl (decide (Fam.sub b a))) (SqL.of f1) (by omega) (fun b hb H1 s1 R R' r1 r2 => ?_) fun G1 p1 t1 hp1 => ?_⟩
    · (try walk_at "rd")
      exact ⟨_, _, rfl, b, a, rfl, rfl, r1 rfl _ (Same.refl _)⟩
    rw [List.filter_eq_self.mpr fun _ _ => rfl]
    refine ⟨p1, rfl, _, .inl (SqL.of upd_same), rfl, ?_, ?_⟩
    · rw [List.all_map]
      exact List.all_eq_true.mpr fun _ _ => rfl
    · have e : inV (.bl true) (fs.map fun b => V.bl (decide (Fam.sub b a))) = Fam.sayP fs a := by
        unfold inV Fam.sayP
        rw [List.any_map]
        congr 1
        funext b
        show (decide (Fam.sub b a) == true) = _
        cases decide (Fam.sub b a) <;> rfl
      rw [e]
      exact q _ (t1.trans (Same.new hp1))
abbrev s__law_refused : Stmt := top 46
theorem sc__law_refused : FnScope ["_law_many", "_law_family_here", "_law_found", "error"] ["_law_many", "_law_family_here"] (defScope s__law_refused) := ⟨rfl, rfl, rfl, by decide +kernel, rfl, by decide +kernel, by decide +kernel⟩
def spRefused (K : PySem.W.Frag) : Sp := sp2 fun x y H Q => ∃ (m : Nat) (p : Addr) (fs : List Nat), x = .int (m : Nat) ∧ y = .ref p ∧ H p = some (.lst (nV fs)) ∧ fs.length ≤ 63 ∧ fs.Pairwise (· < ·) ∧ (∀ b ∈ fs, b < 2 ^ m) ∧ (5 < m → ∀ H', Same H H' → Q (.str "many") H') ∧
  (m ≤ 5 → NoAp m (Fam.sayP fs) m 0 → ∀ H', Same H H' → Q (.str "weights") H') ∧ (m ≤ 5 → (∃ x y s u, x < y ∧ y < m ∧ Fam.part m (Fam.sayP fs) x y = some s ∧ Fam.part m (Fam.sayP fs) y x = some u) → ∀ H', Same H H' → Q (.str "trade") H')
set_option maxHeartbeats 4000000 in
theorem ok__law_refused {f : Addr} {fd : FuncData} (F : Fun K "_law_refused" "_law_refused" s__law_refused f fd) (T : Txt mg) {cT cH cF cD cN cX : Addr} (Z : Xt K mg cT cH cF cD cN cX) {f_by_weights : Addr} {fd_by_weights : FuncData} (C_by_weights : CalX P w K mg base "by_weights" 9 ["many", "family"] (spBy K cT) f_by_weights fd_by_weights) : FnOk P w K mg base CX0 10 f fd ["_law_many", "_law_family_here"] (spRefused K) := by
  have sc := sc__law_refused
  refine F.ok sc__law_refused (fun vs H Q E h => ?_) (fun cdv A outer s H vs Q E hr h => ?_)
  · obtain ⟨_, _, rfl, _⟩ := h
    rfl
  · obtain ⟨x0, x1, rfl, h⟩ := h
    refine ⟨_, (pss_cons (ps_set (i := 2) sc.nd rfl (Or.inl rfl) pe_non)
      (pss_cons (ps_try (i := 3) (C := cT) sc.nd rfl rfl rfl rfl (by rfl) Z.gH Z.xH Z.be Z.su
        (fun pins xe E hp => (pss_one (ps_set (i := 2) sc.nd rfl (Or.inl rfl) (pe_ix (ix_K (K := K) rfl) (pe_calX C_by_weights hr (by decide) (by rfl) hp (pa_cons (pv 0) (pa_cons (pv 1) pa_nil))) pe_int (fun _ _ => rfl)))))
        (fun pins e => (pss_cons (ps_set (i := 2) sc.nd rfl (Or.inl rfl) (pe_ix (ix_K (K := K) rfl) (pe_lst (pa_cons pe_str (pa_cons pe_str pa_nil))) (pe_callTy call_int1 (by rfl) T.n_int PyProof.Rows.boot_int (pa_cons (pe_and (pe_callB (call_isX (K := K) rfl Z.kit) (by rfl) T.n_isinstance PyProof.Rows.boot_isinstance (pa_cons (pv 3) (pa_cons (pe_glob (v := .ref cT) (by rfl) Z.gT rfl) pa_nil))) (pe_one (pe_callB (call_isX (K := K) rfl Z.kit) (by rfl) T.n_isinstance PyProof.Rows.boot_isinstance (pa_cons (pv 3) (pa_cons (pe_bltn (v := .ty "ValueError") (by rfl) T.n_ValueError PyProof.Rows.Boot.«ValueError» rfl) pa_nil))))) pa_nil)) (fun _ _ => rfl)))
          (pss_one (ps_if (pt_val (pe_callB (call_isX (K := K) rfl Z.kit) (by rfl) T.n_isinstance PyProof.Rows.boot_isinstance (pa_cons (pv 3) (pa_cons (pe_tup (pa_cons (pe_glob (v := .ref cF) (by rfl) Z.gF rfl) (pa_cons (pe_glob (v := .ref cD) (by rfl) Z.gD rfl) (pa_cons (pe_glob (v := .ref cN) (by rfl) Z.gN rfl) (pa_cons (pe_glob (v := .ref cX) (by rfl) Z.gX rfl) pa_nil))))) pa_nil)))) (pss_one (ps_set (i := 2) sc.nd rfl (Or.inl rfl) pe_str)) pss_nil)))))
      (pss_one (ps_ret (pv 2))))), ?_⟩
    refine rdg (σ' := [some x0, some x1, none, none]) rfl ?_
    obtain ⟨m, p, fs, rfl, rfl, f1, lf, hr, hb, q1, q2, q3⟩ := h
    walk_at "rd"
    refine ⟨_, _, rfl, m, p, fs, rfl, rfl, f1, lf, hr, hb, fun hm t H' s' V1 => ?_, fun hm => ⟨rfl, fun e σ' hl he => ?_⟩⟩
    · obtain ⟨_, ⟨hno, pw, N, b, _, at1, _⟩ | ⟨x, y, s, u, p1, p2, ys, ns, hxy, hy, e1, e2, _, _, _, at1, _⟩⟩ := V1
      · exact ixX_t (SqT.of at1) rfl (q2 hm hno _ s')
      · exact ixX_t (SqT.of at1) rfl (q3 hm ⟨x, y, s, u, hxy, hy, e1, e2⟩ _ s')
    obtain ⟨a0, a1, a2, a3, rfl⟩ : ∃ a0 a1 a2 a3, σ' = [a0, a1, a2, a3] := by
      match σ', hl with
      | [a0, a1, a2, a3], _ => exact ⟨a0, a1, a2, a3, rfl⟩
    (try walk_at "rd")
    generalize ge : upd H e _ = G1
    have b1 : G1 e = some (XO e cT) := new_at ge
    have s1 : Same H G1 := new_sm ge he
    refine ⟨small5 (by simp), fun pl hpl => ?_⟩
    generalize gl : upd G1 pl _ = G2
    have b2 := new_at gl
    have s2 := new_sm gl hpl
    refine ⟨e, _, true, rfl, s2 _ _ b1, .inr (.inl ⟨cT, rfl, kit_self⟩), ⟨true, rfl, iteT ?_⟩⟩
    refine ⟨e, _, true, rfl, s2 _ _ b1, .inl ⟨"ValueError", rfl, Z.i1⟩, .inr ⟨true, rfl, ixX_l (SqL.of b2) rfl ⟨small5 (by simp), fun pt hpt => ?_⟩⟩⟩
    generalize gt : upd G2 pt _ = G3
    have b3 := new_at gt
    have s3 := new_sm gt hpt
    exact ⟨e, _, false, rfl, s3 _ _ (s2 _ _ b1), .inr (.inr ⟨pt, [cF, cD, cN, cX], rfl, b3, Z.i2⟩), ⟨false, rfl, iteF (q1 hm _ ((s1.trans s2).trans s3))⟩⟩
abbrev s__law_parts : Stmt := top 47
theorem sc__law_parts : FnScope ["_law_many", "_law_family_here", "_law_x", "_law_y", "_law_one"] ["_law_many", "_law_family_here", "_law_x", "_law_y"] (defScope s__law_parts) := ⟨rfl, rfl, rfl, by decide +kernel, rfl, by decide +kernel, by decide +kernel⟩
def spLParts (K : PySem.W.Frag) : Sp := sp4 fun u v x y H Q => ∃ (m : Nat) (p : Addr) (fs : List Nat) (i j : Nat), u = .int (m : Nat) ∧ m ≤ 8 ∧ v = .ref p ∧ H p = some (.lst (nV fs)) ∧ fs.length ≤ 1000 ∧ x = .int (i : Nat) ∧ i < m ∧ y = .int (j : Nat) ∧ j < m ∧ ∀ H', Same H H' → Q (.bl (Fam.part m (Fam.sayP fs) i j).isSome) H'
set_option maxHeartbeats 4000000 in
theorem ok__law_parts {f : Addr} {fd : FuncData} (F : Fun K "_law_parts" "_law_parts" s__law_parts f fd) (T : Txt mg) {f__law_says : Addr} {fd__law_says : FuncData} (C__law_says : Cal P w K mg base "_law_says" 2 ["_law_family_here", "_law_one"] (spLSays K) f__law_says fd__law_says) : FnOk P w K mg base CX0 3 f fd ["_law_many", "_law_family_here", "_law_x", "_law_y"] (spLParts K) := by
  have sc := sc__law_parts
  refine F.ok sc__law_parts (fun vs H Q E h => ?_) (fun cdv A outer s H vs Q E hr h => ?_)
  · obtain ⟨_, _, _, _, rfl, _⟩ := h
    rfl
  · obtain ⟨x0, x1, x2, x3, rfl, h⟩ := h
    refine ⟨_, (pss_cons (ps_for PassesOwn.never rfl (pi_range1 (by rfl) T.n_range (pa_cons (pe_op op_shl pe_int (pv 0)) pa_nil)) (pg_name (i := 4) sc.nd rfl (Or.inl rfl)) (pss_one (ps_if (PW.pt (pw_and (pt_cmpR (op_eqK (K := K) rfl hr.units0) (pe_op op_and (pe_op op_shr (pv 4) (pv 2)) pe_int) pe_int (nomark _)) (pw_and1 (pt_cmpR (op_eqK (K := K) rfl hr.units0) (pe_op op_and (pe_op op_shr (pv 4) (pv 3)) pe_int) pe_int (nomark _))))) (pss_one (ps_if (PW.pt (pw_and (pt_val (pe_cal C__law_says hr (by decide) (by rfl) (pa_cons (pv 1) (pa_cons (pe_op op_or (pv 4) (pe_op op_shl pe_int (pv 2))) pa_nil)))) (pw_and1 (pt_not (pt_val (pe_cal C__law_says hr (by decide) (by rfl) (pa_cons (pv 1) (pa_cons (pe_op op_or (pv 4) (pe_op op_shl pe_int (pv 3))) pa_nil)))))))) (pss_one (ps_ret pe_bl)) pss_nil)) pss_nil)))
      (pss_one (ps_ret pe_bl))), ?_⟩
    refine rdg (σ' := [some x0, some x1, some x2, some x3, none]) rfl ?_
    obtain ⟨m, p, fs, x, y, rfl, hm, rfl, f1, lf, rfl, hx, rfl, hy, q⟩ := h
    walk_at "rd"
    have pp := Nat.two_pow_pos m
    have p8 : 2 ^ m ≤ 256 := Nat.pow_le_pow_right (n := 2) (by decide) hm
    have px : 2 ^ x < 2 ^ m := Nat.pow_lt_pow_right (by decide) hx
    have py : 2 ^ y < 2 ^ m := Nat.pow_lt_pow_right (by decide) hy
    rw [shl_one]
    refine ⟨cpow_of (by omega) (by omega) (by decide) (by decide), by omega, by omega, ?_⟩
    rw [Int.toNat_natCast]
    refine loopRn (fun i σ H3 => ∃ v, σ = [some (.int m), some (.ref p), some (.int x), some (.int y), v] ∧ Same H H3 ∧ (List.range i).find? (Fam.partP (Fam.sayP fs) x y) = none) ⟨none, rfl, Same.refl _, rfl⟩ ?_ ?_
    · rintro i σ H3 hi ⟨v, rfl, s3, h0⟩ N hN
      (try walk_at "rd")
      refine ⟨by omega, ?_⟩
      cases b1 : i.testBit x with
      | true =>
        rw [if_neg (by rw [shr_zero, b1]; decide)]
        exact hN _ _ ⟨_, rfl, s3, find_no h0 (by unfold Fam.partP; rw [b1]; rfl)⟩
      | false =>
        rw [if_pos (by rw [shr_zero, b1]; rfl)]
        refine ⟨by omega, ?_⟩
        cases b2 : i.testBit y with
        | true =>
          rw [if_neg (by rw [shr_zero, b2]; decide)]
          exact hN _ _ ⟨_, rfl, s3, find_no h0 (by unfold Fam.partP; rw [b1, b2]; rfl)⟩
        | false =>
          rw [if_pos (by rw [shr_zero, b2]; rfl), shl_one, or_nat]
          refine ⟨cpow_of (by omega) (by omega) (by decide) (by decide), _, _, rfl, p, fs, _, rfl, s3 _ _ f1, rfl, lf, fun H4 s4 => ⟨_, rfl, ?_⟩⟩
          cases h1 : Fam.sayP fs (i ||| 2 ^ x) with
          | false =>
            rw [if_neg (by decide)]
            exact hN _ _ ⟨_, rfl, s3.trans s4, find_no h0 (by unfold Fam.partP; rw [h1]; simp)⟩
          | true =>
            rw [if_pos rfl, shl_one, or_nat]
            refine ⟨cpow_of (by omega) (by omega) (by decide) (by decide), _, _, rfl, p, fs, _, rfl, s4 _ _ (s3 _ _ f1), rfl, lf, fun H5 s5 => ⟨_, rfl, ?_⟩⟩
            cases h2 : Fam.sayP fs (i ||| 2 ^ y) with
            | true =>
              rw [if_neg (by decide)]
              exact hN _ _ ⟨_, rfl, (s3.trans s4).trans s5, find_no h0 (by unfold Fam.partP; rw [h2]; simp)⟩
            | false =>
              rw [if_pos rfl]
              have e : Fam.part m (Fam.sayP fs) x y = some i := find_yes hi h0 (by unfold Fam.partP; rw [b1, b2, h1, h2]; rfl)
              rw [e] at q
              exact q _ ((s3.trans s4).trans s5)
    · rintro σ H3 ⟨v, rfl, s3, h0⟩
      (try walk_at "rd")
      have e : Fam.part m (Fam.sayP fs) x y = none := h0
      rw [e] at q
      exact q _ s3
abbrev s__law_apart : Stmt := top 48
theorem sc__law_apart : FnScope ["_law_many", "_law_family_here", "_law_x", "_law_y"] ["_law_many", "_law_family_here"] (defScope s__law_apart) := ⟨rfl, rfl, rfl, by decide +kernel, rfl, by decide +kernel, by decide +kernel⟩
def spLApart (K : PySem.W.Frag) : Sp := sp2 fun u v H Q => ∃ (m : Nat) (p : Addr) (fs : List Nat), u = .int (m : Nat) ∧ m ≤ 8 ∧ v = .ref p ∧ H p = some (.lst (nV fs)) ∧ fs.length ≤ 1000 ∧ ((∃ x y s u, x < y ∧ y < m ∧ Fam.part m (Fam.sayP fs) x y = some s ∧ Fam.part m (Fam.sayP fs) y x = some u) → ∀ H', Same H H' → Q (.bl true) H') ∧ (NoAp m (Fam.sayP fs) m 0 → ∀ H', Same H H' → Q (.bl false) H')
set_option maxHeartbeats 4000000 in
theorem ok__law_apart {f : Addr} {fd : FuncData} (F : Fun K "_law_apart" "_law_apart" s__law_apart f fd) (T : Txt mg) {f__law_parts : Addr} {fd__law_parts : FuncData} (C__law_parts : Cal P w K mg base "_law_parts" 3 ["_law_many", "_law_family_here", "_law_x", "_law_y"] (spLParts K) f__law_parts fd__law_parts) : FnOk P w K mg base CX0 4 f fd ["_law_many", "_law_family_here"] (spLApart K) := by
  have sc := sc__law_apart
  refine F.ok sc__law_apart (fun vs H Q E h => ?_) (fun cdv A outer s H vs Q E hr h => ?_)
  · obtain ⟨_, _, rfl, _⟩ := h
    rfl
  · obtain ⟨x0, x1, rfl, h⟩ := h
    refine ⟨_, (pss_cons (ps_for PassesOwn.never rfl (pi_range1 (by rfl) T.n_range (pa_cons (pv 0) pa_nil)) (pg_name (i := 2) sc.nd rfl (Or.inl rfl)) (pss_one (ps_for PassesOwn.never rfl (pi_range1 (by rfl) T.n_range (pa_cons (pv 2) pa_nil)) (pg_name (i := 3) sc.nd rfl (Or.inl rfl)) (pss_one (ps_if (PW.pt (pw_and (pt_val (pe_cal C__law_parts hr (by decide) (by rfl) (pa_cons (pv 0) (pa_cons (pv 1) (pa_cons (pv 2) (pa_cons (pv 3) pa_nil)))))) (pw_and1 (pt_val (pe_cal C__law_parts hr (by decide) (by rfl) (pa_cons (pv 0) (pa_cons (pv 1) (pa_cons (pv 3) (pa_cons (pv 2) pa_nil))))))))) (pss_one (ps_ret pe_bl)) pss_nil)))))
      (pss_one (ps_ret pe_bl))), ?_⟩
    refine rdg (σ' := [some x0, some x1, none, none]) rfl ?_
    obtain ⟨m, p, fs, rfl, hm, rfl, f1, lf, q1, q2⟩ := h
    walk_at "rd"
    refine ⟨by omega, by omega, ?_⟩
    rw [Int.toNat_natCast]
    refine loopRn (fun x σ H3 => ∃ v1 v2, σ = [some (.int m), some (.ref p), v1, v2] ∧ Same H H3 ∧ ∀ i j, j < i → i < x → Fam.part m (Fam.sayP fs) j i = none ∨ Fam.part m (Fam.sayP fs) i j = none) ⟨none, none, rfl, Same.refl _, fun i j _ z => absurd z (by omega)⟩ ?_ ?_
    · rintro x σ H3 hx ⟨v1, v2, rfl, s3, h3⟩ N hN
      (try walk_at "rd")
      refine ⟨by omega, by omega, ?_⟩
      rw [Int.toNat_natCast]
      refine loopRn (fun y σ H4 => ∃ v2, σ = [some (.int m), some (.ref p), some (.int (x : Nat)), v2] ∧ Same H H4 ∧ ∀ j, j < y → Fam.part m (Fam.sayP fs) j x = none ∨ Fam.part m (Fam.sayP fs) x j = none) ⟨_, rfl, s3, fun j z => absurd z (by omega)⟩ ?_ ?_
      · rintro y σ H4 hy ⟨v2, rfl, s4, h4⟩ N2 hN2
        have nx : Fam.part m (Fam.sayP fs) y x = none ∨ Fam.part m (Fam.sayP fs) x y = none → ∀ j, j < y + 1 → Fam.part m (Fam.sayP fs) j x = none ∨ Fam.part m (Fam.sayP fs) x j = none := fun z j hj => by
          by_cases c : j = y
          · rw [c]; exact z
          · exact h4 j (by omega)
        (try walk_at "rd")
        refine ⟨_, _, _, _, rfl, m, p, fs, x, y, rfl, hm, rfl, s4 _ _ f1, lf, rfl, hx, rfl, by omega, fun H5 s5 => ⟨_, rfl, ?_⟩⟩
        have s45 := s4.trans s5
        cases e1 : Fam.part m (Fam.sayP fs) x y with
        | none =>
          rw [if_neg (by simp)]
          exact hN2 _ _ ⟨_, rfl, s45, nx (.inr e1)⟩
        | some u =>
          rw [if_pos (by simp)]
          refine ⟨_, _, _, _, rfl, m, p, fs, y, x, rfl, hm, rfl, s45 _ _ f1, lf, rfl, by omega, rfl, hx, fun H6 s6 => ⟨_, rfl, ?_⟩⟩
          cases e2 : Fam.part m (Fam.sayP fs) y x with
          | none =>
            rw [if_neg (by simp)]
            exact hN2 _ _ ⟨_, rfl, s45.trans s6, nx (.inl e2)⟩
          | some s =>
            rw [if_pos (by simp)]
            (try walk_at "rd")
            exact q1 ⟨y, x, s, u, hy, hx, e2, e1⟩ _ (s45.trans s6)
      · rintro σ H4 ⟨v2, rfl, s4, h4⟩
        refine hN _ _ ⟨_, _, rfl, s4, fun i j h1 h2 => ?_⟩
        by_cases c : i = x
        · subst c
          exact h4 j h1
        · exact h3 i j h1 (by omega)
    · rintro σ H3 ⟨v1, v2, rfl, s3, h3⟩
      (try walk_at "rd")
      exact q2 (fun i j h1 h2 _ => h3 j i h1 h2) _ s3
abbrev s_law : Stmt := top 49
theorem sc_law : FnScope ["_law_script", "_law_many", "_law_family_here", "_law_word"] ["_law_script"] (defScope s_law) := ⟨rfl, rfl, rfl, by decide +kernel, rfl, by decide +kernel, by decide +kernel⟩
theorem apart_ex {m : Nat} {f : Nat → Bool} (h : ¬ NoAp m f m 0) : ∃ x y s u, x < y ∧ y < m ∧ Fam.part m f x y = some s ∧ Fam.part m f y x = some u := by
  apply Classical.byContradiction
  intro no
  refine h fun x y h1 h2 _ => ?_
  cases e1 : Fam.part m f x y with
  | none => exact .inl rfl
  | some s =>
    cases e2 : Fam.part m f y x with
    | none => exact .inr rfl
    | some u => exact absurd ⟨x, y, s, u, h1, h2, e1, e2⟩ no
theorem part_no {m : Nat} {fs : List Nat} {x y s : Nat} (h : Fam.part m (Fam.sayP fs) x y = some s) : fs ≠ [] ∧ 0 ∉ fs := by
  obtain ⟨_, _, _, h1, h2⟩ := Fam.part_some h
  constructor
  · rintro rfl
    cases h1
  · intro z
    have : Fam.sayP fs (s ||| 2 ^ y) = true := by
      unfold Fam.sayP
      exact List.any_eq_true.mpr ⟨0, z, by simp [Fam.sub]⟩
    rw [h2] at this
    cases this
set_option maxHeartbeats 4000000 in
theorem ok_law {f : Addr} {fd : FuncData} (F : Fun K "law" "law" s_law f fd) (T : Txt mg) {f__law_drawn : Addr} {fd__law_drawn : FuncData} (C__law_drawn : Cal P w K mg base "_law_drawn" 2 ["_law_script", "_law_bound"] (spDrawn K) f__law_drawn fd__law_drawn) {f__law_refused : Addr} {fd__law_refused : FuncData} (C__law_refused : Cal P w K mg base "_law_refused" 10 ["_law_many", "_law_family_here"] (spRefused K) f__law_refused fd__law_refused) {f__law_apart : Addr} {fd__law_apart : FuncData} (C__law_apart : Cal P w K mg base "_law_apart" 4 ["_law_many", "_law_family_here"] (spLApart K) f__law_apart fd__law_apart) : FnOk P w K mg base CX0 11 f fd ["_law_script"] (spLaw K) := by
  have sc := sc_law
  refine F.ok sc_law (fun vs H Q E h => ?_) (fun cdv A outer s H vs Q E hr h => ?_)
  · obtain ⟨_, rfl, _⟩ := h
    rfl
  · obtain ⟨x0, rfl, h⟩ := h
    refine ⟨_, (pss_cons (ps_asg (pe_cal C__law_drawn hr (by decide) (by rfl) (pa_cons (pv 0) (pa_cons pe_int pa_nil))) (pg_tup (n := 2) rfl (pgs_cons (pg_name (i := 1) sc.nd rfl (Or.inl rfl)) (pgs_cons (pg_name (i := 2) sc.nd rfl (Or.inl rfl)) pgs_nil))))
      (pss_cons (ps_set (i := 3) sc.nd rfl (Or.inl rfl) (pe_cal C__law_refused hr (by decide) (by rfl) (pa_cons (pv 1) (pa_cons (pv 2) pa_nil))))
      (pss_cons (ps_if (pt_cmpR op_gt (pv 1) pe_int (nomark _)) (pss_one (ps_ret (pe_cmpR (op_eqK (K := K) rfl hr.units0) (pv 3) pe_str (nomark _)))) pss_nil)
      (pss_cons (ps_if (PW.pt (pw_or (pt_cmpR (op_eqK (K := K) rfl hr.units0) (pv 2) (pe_lst pa_nil) (nomark _)) (pw_or1 (pt_cmpR (op_inK (K := K) rfl) pe_int (pv 2) (by with_unfolding_all rfl))))) (pss_one (ps_ret (pe_cmpR (op_eqK (K := K) rfl hr.units0) (pv 3) pe_str (nomark _)))) pss_nil)
      (pss_cons (ps_if (pt_val (pe_cal C__law_apart hr (by decide) (by rfl) (pa_cons (pv 1) (pa_cons (pv 2) pa_nil)))) (pss_one (ps_ret (pe_cmpR (op_eqK (K := K) rfl hr.units0) (pv 3) pe_str (nomark _)))) pss_nil)
      (pss_one (ps_ret (pe_cmpR (op_eqK (K := K) rfl hr.units0) (pv 3) pe_str (nomark _))))))))), ?_⟩
    refine rdg (σ' := [some x0, none, none, none]) rfl ?_
    obtain ⟨a, ns, rfl, hS, hlen, q⟩ := h
    walk_at "rd"
    refine ⟨_, _, rfl, a, ns, 8, rfl, hS, hlen, rfl, by omega, fun t p m fs H1 hm hp s1 ht f1 hr hb h63 => ?_⟩
    refine ⟨t, rfl, _, SqT.of ht, rfl, _, _, rfl, _, _, rfl, rfl, ?_⟩
    (try walk_at "rd")
    by_cases c5 : 5 < m
    · refine ⟨_, _, rfl, m, p, fs, rfl, rfl, f1, by omega, hr, hb, fun _ H2 s2 => ?_, fun z => absurd z (by omega), fun z => absurd z (by omega)⟩
      (try walk_at "rd")
      rw [if_pos (by omega)]
      exact q _
    by_cases hA : NoAp m (Fam.sayP fs) m 0
    · refine ⟨_, _, rfl, m, p, fs, rfl, rfl, f1, by omega, hr, hb, fun z => absurd z (by omega), fun _ _ H2 s2 => ?_, fun _ ⟨x, y, s, u, z1, z2, z3, z4⟩ => ?_⟩
      · (try walk_at "rd")
        rw [if_neg (by omega)]
        refine ⟨small5 (by simp), fun p5 hp5 => ?_⟩
        generalize g5 : upd H2 p5 _ = G5
        have a5 := new_at g5
        have f2 := new_sm g5 hp5 _ _ (s2 _ _ f1)
        refine eqX_l (SqL.of f2) (SqL.of a5) (flat_n _) rfl ?_
        rw [eqVs_nil]
        refine ⟨_, rfl, ?_⟩
        split
        · exact q _
        refine ⟨_, .inl (SqL.of f2), rfl, flat_n _, ?_⟩
        split
        · exact q _
        refine ⟨_, _, rfl, m, p, fs, rfl, hm, rfl, f2, by omega, fun ⟨x, y, s, u, z1, z2, z3, z4⟩ => ?_, fun _ H6 s6 => ⟨false, rfl, iteF (q _)⟩⟩
        rcases hA.all (show x < m by omega) z2 (by omega) with w | w
        · rw [z3] at w; cases w
        · rw [z4] at w; cases w
      · rcases hA.all (show x < m by omega) z2 (by omega) with w | w
        · rw [z3] at w; cases w
        · rw [z4] at w; cases w
    obtain ⟨x, y, s, u, z1, z2, z3, z4⟩ := apart_ex hA
    refine ⟨_, _, rfl, m, p, fs, rfl, rfl, f1, by omega, hr, hb, fun z => absurd z (by omega), fun _ z => absurd z hA, fun _ _ H2 s2 => ?_⟩
    (try walk_at "rd")
    rw [if_neg (by omega)]
    obtain ⟨hne, h0⟩ := part_no z3
    refine ⟨small5 (by simp), fun p5 hp5 => ?_⟩
    generalize g5 : upd H2 p5 _ = G5
    have a5 := new_at g5
    have f2 := new_sm g5 hp5 _ _ (s2 _ _ f1)
    refine eqX_l (SqL.of f2) (SqL.of a5) (flat_n _) rfl ?_
    rw [eqVs_nil]
    have ne' : (nV fs).isEmpty = false := by
      cases fs with
      | nil => exact absurd rfl hne
      | cons a r => rfl
    rw [ne']
    refine ⟨false, rfl, iteF ?_⟩
    refine ⟨_, .inl (SqL.of f2), rfl, flat_n _, ?_⟩
    rw [if_neg (fun z => h0 ?_)]
    · exact ⟨_, _, rfl, m, p, fs, rfl, hm, rfl, f2, by omega, fun _ H6 s6 => ⟨true, rfl, iteT (q _)⟩, fun z => absurd z hA⟩
    · rw [show (V.int 0) = .int ((0 : Nat) : Int) from rfl, inV_n, decide_eq_true_eq] at z
      exact z
end
set_option maxHeartbeats 4000000 in
theorem all_mk {l : PySem.W.OpenLaw} {w : World} {K : PySem.W.Frag} {h : Heap} {mg : Str → Option Value} {fa : Addr} (X : K.In h) (G : h.Ns mainGlobals mg) (hfa : mg "law" = some (.ref fa))
    {f_names_in : Addr} {od_names_in an_names_in : Option Addr} {sl_names_in : Array (Option Value)} {oc_names_in kV_names_in dc_names_in pm_names_in cd_names_in ct_names_in : Value}
    {f_holds : Addr} {od_holds an_holds : Option Addr} {sl_holds : Array (Option Value)} {oc_holds kV_holds dc_holds pm_holds cd_holds ct_holds : Value}
    {f_meets : Addr} {od_meets an_meets : Option Addr} {sl_meets : Array (Option Value)} {oc_meets kV_meets dc_meets pm_meets cd_meets ct_meets : Value}
    {f_rest : Addr} {od_rest an_rest : Option Addr} {sl_rest : Array (Option Value)} {oc_rest kV_rest dc_rest pm_rest cd_rest ct_rest : Value}
    {f_says : Addr} {od_says an_says : Option Addr} {sl_says : Array (Option Value)} {oc_says kV_says dc_says pm_says cd_says ct_says : Value}
    {f_least : Addr} {od_least an_least : Option Addr} {sl_least : Array (Option Value)} {oc_least kV_least dc_least pm_least cd_least ct_least : Value}
    {f_rests : Addr} {od_rests an_rests : Option Addr} {sl_rests : Array (Option Value)} {oc_rests kV_rests dc_rests pm_rests cd_rests ct_rests : Value}
    {f_first_missed : Addr} {od_first_missed an_first_missed : Option Addr} {sl_first_missed : Array (Option Value)} {oc_first_missed kV_first_missed dc_first_missed pm_first_missed cd_first_missed ct_first_missed : Value}
    {f_hits : Addr} {od_hits an_hits : Option Addr} {sl_hits : Array (Option Value)} {oc_hits kV_hits dc_hits pm_hits cd_hits ct_hits : Value}
    {f_table_of : Addr} {od_table_of an_table_of : Option Addr} {sl_table_of : Array (Option Value)} {oc_table_of kV_table_of dc_table_of pm_table_of cd_table_of ct_table_of : Value}
    {f_noes_by : Addr} {od_noes_by an_noes_by : Option Addr} {sl_noes_by : Array (Option Value)} {oc_noes_by kV_noes_by dc_noes_by pm_noes_by cd_noes_by ct_noes_by : Value}
    {f_first_parting : Addr} {od_first_parting an_first_parting : Option Addr} {sl_first_parting : Array (Option Value)} {oc_first_parting kV_first_parting dc_first_parting pm_first_parting cd_first_parting ct_first_parting : Value}
    {f_compared_in : Addr} {od_compared_in an_compared_in : Option Addr} {sl_compared_in : Array (Option Value)} {oc_compared_in kV_compared_in dc_compared_in pm_compared_in cd_compared_in ct_compared_in : Value}
    {f_turned_by : Addr} {od_turned_by an_turned_by : Option Addr} {sl_turned_by : Array (Option Value)} {oc_turned_by kV_turned_by dc_turned_by pm_turned_by cd_turned_by ct_turned_by : Value}
    {f_turns : Addr} {od_turns an_turns : Option Addr} {sl_turns : Array (Option Value)} {oc_turns kV_turns dc_turns pm_turns cd_turns ct_turns : Value}
    {f_ranked : Addr} {od_ranked an_ranked : Option Addr} {sl_ranked : Array (Option Value)} {oc_ranked kV_ranked dc_ranked pm_ranked cd_ranked ct_ranked : Value}
    {f_ranks : Addr} {od_ranks an_ranks : Option Addr} {sl_ranks : Array (Option Value)} {oc_ranks kV_ranks dc_ranks pm_ranks cd_ranks ct_ranks : Value}
    {f_weight_of : Addr} {od_weight_of an_weight_of : Option Addr} {sl_weight_of : Array (Option Value)} {oc_weight_of kV_weight_of dc_weight_of pm_weight_of cd_weight_of ct_weight_of : Value}
    {f_traded : Addr} {od_traded an_traded : Option Addr} {sl_traded : Array (Option Value)} {oc_traded kV_traded dc_traded pm_traded cd_traded ct_traded : Value}
    {f_bar_between : Addr} {od_bar_between an_bar_between : Option Addr} {sl_bar_between : Array (Option Value)} {oc_bar_between kV_bar_between dc_bar_between pm_bar_between cd_bar_between ct_bar_between : Value}
    {f_falling_lists : Addr} {od_falling_lists an_falling_lists : Option Addr} {sl_falling_lists : Array (Option Value)} {oc_falling_lists kV_falling_lists dc_falling_lists pm_falling_lists cd_falling_lists ct_falling_lists : Value}
    {f_given_out : Addr} {od_given_out an_given_out : Option Addr} {sl_given_out : Array (Option Value)} {oc_given_out kV_given_out dc_given_out pm_given_out cd_given_out ct_given_out : Value}
    {f_weighed : Addr} {od_weighed an_weighed : Option Addr} {sl_weighed : Array (Option Value)} {oc_weighed kV_weighed dc_weighed pm_weighed cd_weighed ct_weighed : Value}
    {f_by_weights : Addr} {od_by_weights an_by_weights : Option Addr} {sl_by_weights : Array (Option Value)} {oc_by_weights kV_by_weights dc_by_weights pm_by_weights cd_by_weights ct_by_weights : Value}
    {f__law_cells : Addr} {od__law_cells an__law_cells : Option Addr} {sl__law_cells : Array (Option Value)} {oc__law_cells kV__law_cells dc__law_cells pm__law_cells cd__law_cells ct__law_cells : Value}
    {f__law_family : Addr} {od__law_family an__law_family : Option Addr} {sl__law_family : Array (Option Value)} {oc__law_family kV__law_family dc__law_family pm__law_family cd__law_family ct__law_family : Value}
    {f__law_drawn : Addr} {od__law_drawn an__law_drawn : Option Addr} {sl__law_drawn : Array (Option Value)} {oc__law_drawn kV__law_drawn dc__law_drawn pm__law_drawn cd__law_drawn ct__law_drawn : Value}
    {f__law_within : Addr} {od__law_within an__law_within : Option Addr} {sl__law_within : Array (Option Value)} {oc__law_within kV__law_within dc__law_within pm__law_within cd__law_within ct__law_within : Value}
    {f__law_says : Addr} {od__law_says an__law_says : Option Addr} {sl__law_says : Array (Option Value)} {oc__law_says kV__law_says dc__law_says pm__law_says cd__law_says ct__law_says : Value}
    {f__law_refused : Addr} {od__law_refused an__law_refused : Option Addr} {sl__law_refused : Array (Option Value)} {oc__law_refused kV__law_refused dc__law_refused pm__law_refused cd__law_refused ct__law_refused : Value}
    {f__law_parts : Addr} {od__law_parts an__law_parts : Option Addr} {sl__law_parts : Array (Option Value)} {oc__law_parts kV__law_parts dc__law_parts pm__law_parts cd__law_parts ct__law_parts : Value}
    {f__law_apart : Addr} {od__law_apart an__law_apart : Option Addr} {sl__law_apart : Array (Option Value)} {oc__law_apart kV__law_apart dc__law_apart pm__law_apart cd__law_apart ct__law_apart : Value}
    {f_law : Addr} {od_law an_law : Option Addr} {sl_law : Array (Option Value)} {oc_law kV_law dc_law pm_law cd_law ct_law : Value}
    (a_names_in : PySem.W.nsIn K mainGlobals "names_in" = some (some (.ref f_names_in))) (l_names_in : K.lookup f_names_in = some ⟨oc_names_in, od_names_in, .func (PySem.W.fnOf "names_in" "names_in" (defArgs s_names_in) (defBody s_names_in) (defScope s_names_in) .none kV_names_in dc_names_in pm_names_in an_names_in cd_names_in ct_names_in), sl_names_in⟩) (c_names_in : PySem.W.codeIn K cd_names_in "names_in" = true) (k_names_in : PySem.W.keepIn K (.ref f_names_in) = true)
    (a_holds : PySem.W.nsIn K mainGlobals "holds" = some (some (.ref f_holds))) (l_holds : K.lookup f_holds = some ⟨oc_holds, od_holds, .func (PySem.W.fnOf "holds" "holds" (defArgs s_holds) (defBody s_holds) (defScope s_holds) .none kV_holds dc_holds pm_holds an_holds cd_holds ct_holds), sl_holds⟩) (c_holds : PySem.W.codeIn K cd_holds "holds" = true) (k_holds : PySem.W.keepIn K (.ref f_holds) = true)
    (a_meets : PySem.W.nsIn K mainGlobals "meets" = some (some (.ref f_meets))) (l_meets : K.lookup f_meets = some ⟨oc_meets, od_meets, .func (PySem.W.fnOf "meets" "meets" (defArgs s_meets) (defBody s_meets) (defScope s_meets) .none kV_meets dc_meets pm_meets an_meets cd_meets ct_meets), sl_meets⟩) (c_meets : PySem.W.codeIn K cd_meets "meets" = true) (k_meets : PySem.W.keepIn K (.ref f_meets) = true)
    (a_rest : PySem.W.nsIn K mainGlobals "rest" = some (some (.ref f_rest))) (l_rest : K.lookup f_rest = some ⟨oc_rest, od_rest, .func (PySem.W.fnOf "rest" "rest" (defArgs s_rest) (defBody s_rest) (defScope s_rest) .none kV_rest dc_rest pm_rest an_rest cd_rest ct_rest), sl_rest⟩) (c_rest : PySem.W.codeIn K cd_rest "rest" = true) (k_rest : PySem.W.keepIn K (.ref f_rest) = true)
    (a_says : PySem.W.nsIn K mainGlobals "says" = some (some (.ref f_says))) (l_says : K.lookup f_says = some ⟨oc_says, od_says, .func (PySem.W.fnOf "says" "says" (defArgs s_says) (defBody s_says) (defScope s_says) .none kV_says dc_says pm_says an_says cd_says ct_says), sl_says⟩) (c_says : PySem.W.codeIn K cd_says "says" = true) (k_says : PySem.W.keepIn K (.ref f_says) = true)
    (a_least : PySem.W.nsIn K mainGlobals "least" = some (some (.ref f_least))) (l_least : K.lookup f_least = some ⟨oc_least, od_least, .func (PySem.W.fnOf "least" "least" (defArgs s_least) (defBody s_least) (defScope s_least) .none kV_least dc_least pm_least an_least cd_least ct_least), sl_least⟩) (c_least : PySem.W.codeIn K cd_least "least" = true) (k_least : PySem.W.keepIn K (.ref f_least) = true)
    (a_rests : PySem.W.nsIn K mainGlobals "rests" = some (some (.ref f_rests))) (l_rests : K.lookup f_rests = some ⟨oc_rests, od_rests, .func (PySem.W.fnOf "rests" "rests" (defArgs s_rests) (defBody s_rests) (defScope s_rests) .none kV_rests dc_rests pm_rests an_rests cd_rests ct_rests), sl_rests⟩) (c_rests : PySem.W.codeIn K cd_rests "rests" = true) (k_rests : PySem.W.keepIn K (.ref f_rests) = true)
    (a_first_missed : PySem.W.nsIn K mainGlobals "first_missed" = some (some (.ref f_first_missed))) (l_first_missed : K.lookup f_first_missed = some ⟨oc_first_missed, od_first_missed, .func (PySem.W.fnOf "first_missed" "first_missed" (defArgs s_first_missed) (defBody s_first_missed) (defScope s_first_missed) .none kV_first_missed dc_first_missed pm_first_missed an_first_missed cd_first_missed ct_first_missed), sl_first_missed⟩) (c_first_missed : PySem.W.codeIn K cd_first_missed "first_missed" = true) (k_first_missed : PySem.W.keepIn K (.ref f_first_missed) = true)
    (a_hits : PySem.W.nsIn K mainGlobals "hits" = some (some (.ref f_hits))) (l_hits : K.lookup f_hits = some ⟨oc_hits, od_hits, .func (PySem.W.fnOf "hits" "hits" (defArgs s_hits) (defBody s_hits) (defScope s_hits) .none kV_hits dc_hits pm_hits an_hits cd_hits ct_hits), sl_hits⟩) (c_hits : PySem.W.codeIn K cd_hits "hits" = true) (k_hits : PySem.W.keepIn K (.ref f_hits) = true)
    (a_table_of : PySem.W.nsIn K mainGlobals "table_of" = some (some (.ref f_table_of))) (l_table_of : K.lookup f_table_of = some ⟨oc_table_of, od_table_of, .func (PySem.W.fnOf "table_of" "table_of" (defArgs s_table_of) (defBody s_table_of) (defScope s_table_of) .none kV_table_of dc_table_of pm_table_of an_table_of cd_table_of ct_table_of), sl_table_of⟩) (c_table_of : PySem.W.codeIn K cd_table_of "table_of" = true) (k_table_of : PySem.W.keepIn K (.ref f_table_of) = true)
    (a_noes_by : PySem.W.nsIn K mainGlobals "noes_by" = some (some (.ref f_noes_by))) (l_noes_by : K.lookup f_noes_by = some ⟨oc_noes_by, od_noes_by, .func (PySem.W.fnOf "noes_by" "noes_by" (defArgs s_noes_by) (defBody s_noes_by) (defScope s_noes_by) .none kV_noes_by dc_noes_by pm_noes_by an_noes_by cd_noes_by ct_noes_by), sl_noes_by⟩) (c_noes_by : PySem.W.codeIn K cd_noes_by "noes_by" = true) (k_noes_by : PySem.W.keepIn K (.ref f_noes_by) = true)
    (a_first_parting : PySem.W.nsIn K mainGlobals "first_parting" = some (some (.ref f_first_parting))) (l_first_parting : K.lookup f_first_parting = some ⟨oc_first_parting, od_first_parting, .func (PySem.W.fnOf "first_parting" "first_parting" (defArgs s_first_parting) (defBody s_first_parting) (defScope s_first_parting) .none kV_first_parting dc_first_parting pm_first_parting an_first_parting cd_first_parting ct_first_parting), sl_first_parting⟩) (c_first_parting : PySem.W.codeIn K cd_first_parting "first_parting" = true) (k_first_parting : PySem.W.keepIn K (.ref f_first_parting) = true)
    (a_compared_in : PySem.W.nsIn K mainGlobals "compared_in" = some (some (.ref f_compared_in))) (l_compared_in : K.lookup f_compared_in = some ⟨oc_compared_in, od_compared_in, .func (PySem.W.fnOf "compared_in" "compared_in" (defArgs s_compared_in) (defBody s_compared_in) (defScope s_compared_in) .none kV_compared_in dc_compared_in pm_compared_in an_compared_in cd_compared_in ct_compared_in), sl_compared_in⟩) (c_compared_in : PySem.W.codeIn K cd_compared_in "compared_in" = true) (k_compared_in : PySem.W.keepIn K (.ref f_compared_in) = true)
    (a_turned_by : PySem.W.nsIn K mainGlobals "turned_by" = some (some (.ref f_turned_by))) (l_turned_by : K.lookup f_turned_by = some ⟨oc_turned_by, od_turned_by, .func (PySem.W.fnOf "turned_by" "turned_by" (defArgs s_turned_by) (defBody s_turned_by) (defScope s_turned_by) .none kV_turned_by dc_turned_by pm_turned_by an_turned_by cd_turned_by ct_turned_by), sl_turned_by⟩) (c_turned_by : PySem.W.codeIn K cd_turned_by "turned_by" = true) (k_turned_by : PySem.W.keepIn K (.ref f_turned_by) = true)
    (a_turns : PySem.W.nsIn K mainGlobals "turns" = some (some (.ref f_turns))) (l_turns : K.lookup f_turns = some ⟨oc_turns, od_turns, .func (PySem.W.fnOf "turns" "turns" (defArgs s_turns) (defBody s_turns) (defScope s_turns) .none kV_turns dc_turns pm_turns an_turns cd_turns ct_turns), sl_turns⟩) (c_turns : PySem.W.codeIn K cd_turns "turns" = true) (k_turns : PySem.W.keepIn K (.ref f_turns) = true)
    (a_ranked : PySem.W.nsIn K mainGlobals "ranked" = some (some (.ref f_ranked))) (l_ranked : K.lookup f_ranked = some ⟨oc_ranked, od_ranked, .func (PySem.W.fnOf "ranked" "ranked" (defArgs s_ranked) (defBody s_ranked) (defScope s_ranked) .none kV_ranked dc_ranked pm_ranked an_ranked cd_ranked ct_ranked), sl_ranked⟩) (c_ranked : PySem.W.codeIn K cd_ranked "ranked" = true) (k_ranked : PySem.W.keepIn K (.ref f_ranked) = true)
    (a_ranks : PySem.W.nsIn K mainGlobals "ranks" = some (some (.ref f_ranks))) (l_ranks : K.lookup f_ranks = some ⟨oc_ranks, od_ranks, .func (PySem.W.fnOf "ranks" "ranks" (defArgs s_ranks) (defBody s_ranks) (defScope s_ranks) .none kV_ranks dc_ranks pm_ranks an_ranks cd_ranks ct_ranks), sl_ranks⟩) (c_ranks : PySem.W.codeIn K cd_ranks "ranks" = true) (k_ranks : PySem.W.keepIn K (.ref f_ranks) = true)
    (a_weight_of : PySem.W.nsIn K mainGlobals "weight_of" = some (some (.ref f_weight_of))) (l_weight_of : K.lookup f_weight_of = some ⟨oc_weight_of, od_weight_of, .func (PySem.W.fnOf "weight_of" "weight_of" (defArgs s_weight_of) (defBody s_weight_of) (defScope s_weight_of) .none kV_weight_of dc_weight_of pm_weight_of an_weight_of cd_weight_of ct_weight_of), sl_weight_of⟩) (c_weight_of : PySem.W.codeIn K cd_weight_of "weight_of" = true) (k_weight_of : PySem.W.keepIn K (.ref f_weight_of) = true)
    (a_traded : PySem.W.nsIn K mainGlobals "traded" = some (some (.ref f_traded))) (l_traded : K.lookup f_traded = some ⟨oc_traded, od_traded, .func (PySem.W.fnOf "traded" "traded" (defArgs s_traded) (defBody s_traded) (defScope s_traded) .none kV_traded dc_traded pm_traded an_traded cd_traded ct_traded), sl_traded⟩) (c_traded : PySem.W.codeIn K cd_traded "traded" = true) (k_traded : PySem.W.keepIn K (.ref f_traded) = true)
    (a_bar_between : PySem.W.nsIn K mainGlobals "bar_between" = some (some (.ref f_bar_between))) (l_bar_between : K.lookup f_bar_between = some ⟨oc_bar_between, od_bar_between, .func (PySem.W.fnOf "bar_between" "bar_between" (defArgs s_bar_between) (defBody s_bar_between) (defScope s_bar_between) .none kV_bar_between dc_bar_between pm_bar_between an_bar_between cd_bar_between ct_bar_between), sl_bar_between⟩) (c_bar_between : PySem.W.codeIn K cd_bar_between "bar_between" = true) (k_bar_between : PySem.W.keepIn K (.ref f_bar_between) = true)
    (a_falling_lists : PySem.W.nsIn K mainGlobals "falling_lists" = some (some (.ref f_falling_lists))) (l_falling_lists : K.lookup f_falling_lists = some ⟨oc_falling_lists, od_falling_lists, .func (PySem.W.fnOf "falling_lists" "falling_lists" (defArgs s_falling_lists) (defBody s_falling_lists) (defScope s_falling_lists) .none kV_falling_lists dc_falling_lists pm_falling_lists an_falling_lists cd_falling_lists ct_falling_lists), sl_falling_lists⟩) (c_falling_lists : PySem.W.codeIn K cd_falling_lists "falling_lists" = true) (k_falling_lists : PySem.W.keepIn K (.ref f_falling_lists) = true)
    (a_given_out : PySem.W.nsIn K mainGlobals "given_out" = some (some (.ref f_given_out))) (l_given_out : K.lookup f_given_out = some ⟨oc_given_out, od_given_out, .func (PySem.W.fnOf "given_out" "given_out" (defArgs s_given_out) (defBody s_given_out) (defScope s_given_out) .none kV_given_out dc_given_out pm_given_out an_given_out cd_given_out ct_given_out), sl_given_out⟩) (c_given_out : PySem.W.codeIn K cd_given_out "given_out" = true) (k_given_out : PySem.W.keepIn K (.ref f_given_out) = true)
    (a_weighed : PySem.W.nsIn K mainGlobals "weighed" = some (some (.ref f_weighed))) (l_weighed : K.lookup f_weighed = some ⟨oc_weighed, od_weighed, .func (PySem.W.fnOf "weighed" "weighed" (defArgs s_weighed) (defBody s_weighed) (defScope s_weighed) .none kV_weighed dc_weighed pm_weighed an_weighed cd_weighed ct_weighed), sl_weighed⟩) (c_weighed : PySem.W.codeIn K cd_weighed "weighed" = true) (k_weighed : PySem.W.keepIn K (.ref f_weighed) = true)
    (a_by_weights : PySem.W.nsIn K mainGlobals "by_weights" = some (some (.ref f_by_weights))) (l_by_weights : K.lookup f_by_weights = some ⟨oc_by_weights, od_by_weights, .func (PySem.W.fnOf "by_weights" "by_weights" (defArgs s_by_weights) (defBody s_by_weights) (defScope s_by_weights) .none kV_by_weights dc_by_weights pm_by_weights an_by_weights cd_by_weights ct_by_weights), sl_by_weights⟩) (c_by_weights : PySem.W.codeIn K cd_by_weights "by_weights" = true) (k_by_weights : PySem.W.keepIn K (.ref f_by_weights) = true)
    (a__law_cells : PySem.W.nsIn K mainGlobals "_law_cells" = some (some (.ref f__law_cells))) (l__law_cells : K.lookup f__law_cells = some ⟨oc__law_cells, od__law_cells, .func (PySem.W.fnOf "_law_cells" "_law_cells" (defArgs s__law_cells) (defBody s__law_cells) (defScope s__law_cells) .none kV__law_cells dc__law_cells pm__law_cells an__law_cells cd__law_cells ct__law_cells), sl__law_cells⟩) (c__law_cells : PySem.W.codeIn K cd__law_cells "_law_cells" = true) (k__law_cells : PySem.W.keepIn K (.ref f__law_cells) = true)
    (a__law_family : PySem.W.nsIn K mainGlobals "_law_family" = some (some (.ref f__law_family))) (l__law_family : K.lookup f__law_family = some ⟨oc__law_family, od__law_family, .func (PySem.W.fnOf "_law_family" "_law_family" (defArgs s__law_family) (defBody s__law_family) (defScope s__law_family) .none kV__law_family dc__law_family pm__law_family an__law_family cd__law_family ct__law_family), sl__law_family⟩) (c__law_family : PySem.W.codeIn K cd__law_family "_law_family" = true) (k__law_family : PySem.W.keepIn K (.ref f__law_family) = true)
    (a__law_drawn : PySem.W.nsIn K mainGlobals "_law_drawn" = some (some (.ref f__law_drawn))) (l__law_drawn : K.lookup f__law_drawn = some ⟨oc__law_drawn, od__law_drawn, .func (PySem.W.fnOf "_law_drawn" "_law_drawn" (defArgs s__law_drawn) (defBody s__law_drawn) (defScope s__law_drawn) .none kV__law_drawn dc__law_drawn pm__law_drawn an__law_drawn cd__law_drawn ct__law_drawn), sl__law_drawn⟩) (c__law_drawn : PySem.W.codeIn K cd__law_drawn "_law_drawn" = true) (k__law_drawn : PySem.W.keepIn K (.ref f__law_drawn) = true)
    (a__law_within : PySem.W.nsIn K mainGlobals "_law_within" = some (some (.ref f__law_within))) (l__law_within : K.lookup f__law_within = some ⟨oc__law_within, od__law_within, .func (PySem.W.fnOf "_law_within" "_law_within" (defArgs s__law_within) (defBody s__law_within) (defScope s__law_within) .none kV__law_within dc__law_within pm__law_within an__law_within cd__law_within ct__law_within), sl__law_within⟩) (c__law_within : PySem.W.codeIn K cd__law_within "_law_within" = true) (k__law_within : PySem.W.keepIn K (.ref f__law_within) = true)
    (a__law_says : PySem.W.nsIn K mainGlobals "_law_says" = some (some (.ref f__law_says))) (l__law_says : K.lookup f__law_says = some ⟨oc__law_says, od__law_says, .func (PySem.W.fnOf "_law_says" "_law_says" (defArgs s__law_says) (defBody s__law_says) (defScope s__law_says) .none kV__law_says dc__law_says pm__law_says an__law_says cd__law_says ct__law_says), sl__law_says⟩) (c__law_says : PySem.W.codeIn K cd__law_says "_law_says" = true) (k__law_says : PySem.W.keepIn K (.ref f__law_says) = true)
    (a__law_refused : PySem.W.nsIn K mainGlobals "_law_refused" = some (some (.ref f__law_refused))) (l__law_refused : K.lookup f__law_refused = some ⟨oc__law_refused, od__law_refused, .func (PySem.W.fnOf "_law_refused" "_law_refused" (defArgs s__law_refused) (defBody s__law_refused) (defScope s__law_refused) .none kV__law_refused dc__law_refused pm__law_refused an__law_refused cd__law_refused ct__law_refused), sl__law_refused⟩) (c__law_refused : PySem.W.codeIn K cd__law_refused "_law_refused" = true) (k__law_refused : PySem.W.keepIn K (.ref f__law_refused) = true)
    (a__law_parts : PySem.W.nsIn K mainGlobals "_law_parts" = some (some (.ref f__law_parts))) (l__law_parts : K.lookup f__law_parts = some ⟨oc__law_parts, od__law_parts, .func (PySem.W.fnOf "_law_parts" "_law_parts" (defArgs s__law_parts) (defBody s__law_parts) (defScope s__law_parts) .none kV__law_parts dc__law_parts pm__law_parts an__law_parts cd__law_parts ct__law_parts), sl__law_parts⟩) (c__law_parts : PySem.W.codeIn K cd__law_parts "_law_parts" = true) (k__law_parts : PySem.W.keepIn K (.ref f__law_parts) = true)
    (a__law_apart : PySem.W.nsIn K mainGlobals "_law_apart" = some (some (.ref f__law_apart))) (l__law_apart : K.lookup f__law_apart = some ⟨oc__law_apart, od__law_apart, .func (PySem.W.fnOf "_law_apart" "_law_apart" (defArgs s__law_apart) (defBody s__law_apart) (defScope s__law_apart) .none kV__law_apart dc__law_apart pm__law_apart an__law_apart cd__law_apart ct__law_apart), sl__law_apart⟩) (c__law_apart : PySem.W.codeIn K cd__law_apart "_law_apart" = true) (k__law_apart : PySem.W.keepIn K (.ref f__law_apart) = true)
    (a_law : PySem.W.nsIn K mainGlobals "law" = some (some (.ref f_law))) (l_law : K.lookup f_law = some ⟨oc_law, od_law, .func (PySem.W.fnOf "law" "law" (defArgs s_law) (defBody s_law) (defScope s_law) .none kV_law dc_law pm_law an_law cd_law ct_law), sl_law⟩) (c_law : PySem.W.codeIn K cd_law "law" = true) (k_law : PySem.W.keepIn K (.ref f_law) = true)
    (z_range : PySem.W.nsIn K mainGlobals "range" = some none)
    (z_sorted : PySem.W.nsIn K mainGlobals "sorted" = some none)
    (z_set : PySem.W.nsIn K mainGlobals "set" = some none)
    (z_len : PySem.W.nsIn K mainGlobals "len" = some none)
    (z_reversed : PySem.W.nsIn K mainGlobals "reversed" = some none)
    (z_enumerate : PySem.W.nsIn K mainGlobals "enumerate" = some none)
    (z_sum : PySem.W.nsIn K mainGlobals "sum" = some none)
    (z_max : PySem.W.nsIn K mainGlobals "max" = some none)
    (z_min : PySem.W.nsIn K mainGlobals "min" = some none)
    (z_zip : PySem.W.nsIn K mainGlobals "zip" = some none)
    (z_isinstance : PySem.W.nsIn K mainGlobals "isinstance" = some none)
    (z_int : PySem.W.nsIn K mainGlobals "int" = some none)
    (z_ValueError : PySem.W.nsIn K mainGlobals "ValueError" = some none)
    {t_MOST_WEIGHT : Tok} (v_MOST_WEIGHT : PySem.W.nsIn K mainGlobals "MOST_WEIGHT" = some (some (.int 5 t_MOST_WEIGHT)))
    {t_MOST_VOTERS : Tok} (v_MOST_VOTERS : PySem.W.nsIn K mainGlobals "MOST_VOTERS" = some (some (.int 5 t_MOST_VOTERS)))
    {cT cH cF cD cN cX : Addr} {cdF cdD cdN cdX : ClassData} (gT : PySem.W.nsIn K mainGlobals "TooMany" = some (some (.ref cT))) (gH : PySem.W.nsIn K mainGlobals "HitError" = some (some (.ref cH))) (gF : PySem.W.nsIn K mainGlobals "Full" = some (some (.ref cF))) (gD : PySem.W.nsIn K mainGlobals "NoDeed" = some (some (.ref cD))) (gN : PySem.W.nsIn K mainGlobals "NoFamily" = some (some (.ref cN))) (gX : PySem.W.nsIn K mainGlobals "NoText" = some (some (.ref cX))) (xT : PySem.W.excIn K cT [.type "ValueError", .type "Exception", .type "BaseException", .type "object"] "ValueError.__new__" = true) (xH : PySem.W.excIn K cH [.type "ValueError", .type "Exception", .type "BaseException", .type "object"] "ValueError.__new__" = true) (eH : PySem.W.subIn K (.ref cH) (.type "BaseException") = some true) (eT : PySem.W.subIn K (.ref cT) (.ref cH) = some true) (f1 : PySem.W.findIn K (.ref cT) "__getattribute__" = some (some (.builtin "BaseException.__getattribute__"))) (f2 : PySem.W.findIn K (.ref cT) "__getattr__" = some none) (f3 : PySem.W.findIn K (.ref cT) "__class__" = some (some (.builtin "object.__class__"))) (e1 : PySem.W.subIn K (.ref cT) (.type "BaseException") = some true) (e2 : PySem.W.subIn K (.ref cT) (.type "object") = some true) (e3 : PySem.W.subIn K (.ref cT) (.type "ValueError") = some true) (sF : PySem.W.subIn K (.ref cT) (.ref cF) = some false) (tF : PySem.W.typeIn K (.ref cF) = some (.type "type")) (qF : PySem.W.clsIn K cF = some cdF) (dF : (cT == cF) = false) (sD : PySem.W.subIn K (.ref cT) (.ref cD) = some false) (tD : PySem.W.typeIn K (.ref cD) = some (.type "type")) (qD : PySem.W.clsIn K cD = some cdD) (dD : (cT == cD) = false) (sN : PySem.W.subIn K (.ref cT) (.ref cN) = some false) (tN : PySem.W.typeIn K (.ref cN) = some (.type "type")) (qN : PySem.W.clsIn K cN = some cdN) (dN : (cT == cN) = false) (sX : PySem.W.subIn K (.ref cT) (.ref cX) = some false) (tX : PySem.W.typeIn K (.ref cX) = some (.type "type")) (qX : PySem.W.clsIn K cX = some cdX) (dX : (cT == cX) = false) :
    ∃ fd : FuncData, (∀ (s : Shared) (v : Value), BindsTo s fd ⟨[v], []⟩ [("_law_script", v)]) ∧ ∀ base : Heap, K.In base → base.Ns mainGlobals mg → FnOk l.prog w K mg base CX0 11 fa fd ["_law_script"] ((spLaw K)) := by
  have e := hfa.symm.trans (PySem.W.mg_of X G a_law)
  cases e
  have T : Txt mg := ⟨PySem.W.mg_none_of X G z_range, PySem.W.mg_none_of X G z_sorted, PySem.W.mg_none_of X G z_set, PySem.W.mg_none_of X G z_len, PySem.W.mg_none_of X G z_reversed, PySem.W.mg_none_of X G z_enumerate, PySem.W.mg_none_of X G z_sum, PySem.W.mg_none_of X G z_max, PySem.W.mg_none_of X G z_min, PySem.W.mg_none_of X G z_zip, PySem.W.mg_none_of X G z_isinstance, PySem.W.mg_none_of X G z_int, PySem.W.mg_none_of X G z_ValueError, ⟨_, PySem.W.mg_of X G v_MOST_WEIGHT⟩, ⟨_, PySem.W.mg_of X G v_MOST_VOTERS⟩⟩
  have Z : Xt K mg cT cH cF cD cN cX := ⟨PySem.W.mg_of X G gT, PySem.W.mg_of X G gH, PySem.W.mg_of X G gF, PySem.W.mg_of X G gD, PySem.W.mg_of X G gN, PySem.W.mg_of X G gX, xT, xH, eH, eT, ⟨⟨_, _, xT⟩, f1, f2, f3, e1, e2⟩, kit_type (by decide +kernel) e3, kit_no (kit_ref qF tF dF sF) (kit_no (kit_ref qD tD dD sD) (kit_no (kit_ref qN tN dN sN) (kit_no (kit_ref qX tX dX sX) rfl)))⟩
  have F_names_in := fun_mk (st := s_names_in) l_names_in c_names_in k_names_in
  have b_names_in := F_names_in.binds (ps := ["one"]) fun _ _ _ _ _ _ us hl => match us, hl with | [_], _ => rfl
  have F_holds := fun_mk (st := s_holds) l_holds c_holds k_holds
  have b_holds := F_holds.binds (ps := ["one", "other"]) fun _ _ _ _ _ _ us hl => match us, hl with | [_, _], _ => rfl
  have F_meets := fun_mk (st := s_meets) l_meets c_meets k_meets
  have b_meets := F_meets.binds (ps := ["one", "other"]) fun _ _ _ _ _ _ us hl => match us, hl with | [_, _], _ => rfl
  have F_rest := fun_mk (st := s_rest) l_rest c_rest k_rest
  have b_rest := F_rest.binds (ps := ["many", "one"]) fun _ _ _ _ _ _ us hl => match us, hl with | [_, _], _ => rfl
  have F_says := fun_mk (st := s_says) l_says c_says k_says
  have b_says := F_says.binds (ps := ["family", "one"]) fun _ _ _ _ _ _ us hl => match us, hl with | [_, _], _ => rfl
  have F_least := fun_mk (st := s_least) l_least c_least k_least
  have b_least := F_least.binds (ps := ["some"]) fun _ _ _ _ _ _ us hl => match us, hl with | [_], _ => rfl
  have F_rests := fun_mk (st := s_rests) l_rests c_rests k_rests
  have b_rests := F_rests.binds (ps := ["many", "family"]) fun _ _ _ _ _ _ us hl => match us, hl with | [_, _], _ => rfl
  have F_first_missed := fun_mk (st := s_first_missed) l_first_missed c_first_missed k_first_missed
  have b_first_missed := F_first_missed.binds (ps := ["family", "one"]) fun _ _ _ _ _ _ us hl => match us, hl with | [_, _], _ => rfl
  have F_hits := fun_mk (st := s_hits) l_hits c_hits k_hits
  have b_hits := F_hits.binds (ps := ["many", "family"]) fun _ _ _ _ _ _ us hl => match us, hl with | [_, _], _ => rfl
  have F_table_of := fun_mk (st := s_table_of) l_table_of c_table_of k_table_of
  have b_table_of := F_table_of.binds (ps := ["many", "family"]) fun _ _ _ _ _ _ us hl => match us, hl with | [_, _], _ => rfl
  have F_noes_by := fun_mk (st := s_noes_by) l_noes_by c_noes_by k_noes_by
  have b_noes_by := F_noes_by.binds (ps := ["many", "family"]) fun _ _ _ _ _ _ us hl => match us, hl with | [_, _], _ => rfl
  have F_first_parting := fun_mk (st := s_first_parting) l_first_parting c_first_parting k_first_parting
  have b_first_parting := F_first_parting.binds (ps := ["many", "table", "x", "y"]) fun _ _ _ _ _ _ us hl => match us, hl with | [_, _, _, _], _ => rfl
  have F_compared_in := fun_mk (st := s_compared_in) l_compared_in c_compared_in k_compared_in
  have b_compared_in := F_compared_in.binds (ps := ["many", "table", "x", "y"]) fun _ _ _ _ _ _ us hl => match us, hl with | [_, _, _, _], _ => rfl
  have F_turned_by := fun_mk (st := s_turned_by) l_turned_by c_turned_by k_turned_by
  have b_turned_by := F_turned_by.binds (ps := ["many", "table", "k"]) fun _ _ _ _ _ _ us hl => match us, hl with | [_, _, _], _ => rfl
  have F_turns := fun_mk (st := s_turns) l_turns c_turns k_turns
  have b_turns := F_turns.binds (ps := ["many", "family"]) fun _ _ _ _ _ _ us hl => match us, hl with | [_, _], _ => rfl
  have F_ranked := fun_mk (st := s_ranked) l_ranked c_ranked k_ranked
  have b_ranked := F_ranked.binds (ps := ["counts"]) fun _ _ _ _ _ _ us hl => match us, hl with | [_], _ => rfl
  have F_ranks := fun_mk (st := s_ranks) l_ranks c_ranks k_ranks
  have b_ranks := F_ranks.binds (ps := ["many", "family"]) fun _ _ _ _ _ _ us hl => match us, hl with | [_, _], _ => rfl
  have F_weight_of := fun_mk (st := s_weight_of) l_weight_of c_weight_of k_weight_of
  have b_weight_of := F_weight_of.binds (ps := ["weights", "one"]) fun _ _ _ _ _ _ us hl => match us, hl with | [_, _], _ => rfl
  have F_traded := fun_mk (st := s_traded) l_traded c_traded k_traded
  have b_traded := F_traded.binds (ps := ["x", "y", "s", "t"]) fun _ _ _ _ _ _ us hl => match us, hl with | [_, _, _, _], _ => rfl
  have F_bar_between := fun_mk (st := s_bar_between) l_bar_between c_bar_between k_bar_between
  have b_bar_between := F_bar_between.binds (ps := ["weights", "yes", "no"]) fun _ _ _ _ _ _ us hl => match us, hl with | [_, _, _], _ => rfl
  have F_falling_lists := fun_mk (st := s_falling_lists) l_falling_lists c_falling_lists k_falling_lists
  have b_falling_lists := F_falling_lists.binds (ps := ["length", "most"]) fun _ _ _ _ _ _ us hl => match us, hl with | [_, _], _ => rfl
  have F_given_out := fun_mk (st := s_given_out) l_given_out c_given_out k_given_out
  have b_given_out := F_given_out.binds (ps := ["many", "lists", "falling"]) fun _ _ _ _ _ _ us hl => match us, hl with | [_, _, _], _ => rfl
  have F_weighed := fun_mk (st := s_weighed) l_weighed c_weighed k_weighed
  have b_weighed := F_weighed.binds (ps := ["many", "family", "lists"]) fun _ _ _ _ _ _ us hl => match us, hl with | [_, _, _], _ => rfl
  have F_by_weights := fun_mk (st := s_by_weights) l_by_weights c_by_weights k_by_weights
  have b_by_weights := F_by_weights.binds (ps := ["many", "family"]) fun _ _ _ _ _ _ us hl => match us, hl with | [_, _], _ => rfl
  have F__law_cells := fun_mk (st := s__law_cells) l__law_cells c__law_cells k__law_cells
  have b__law_cells := F__law_cells.binds (ps := ["_law_script", "_law_amount"]) fun _ _ _ _ _ _ us hl => match us, hl with | [_, _], _ => rfl
  have F__law_family := fun_mk (st := s__law_family) l__law_family c__law_family k__law_family
  have b__law_family := F__law_family.binds (ps := ["_law_cells_here", "_law_many"]) fun _ _ _ _ _ _ us hl => match us, hl with | [_, _], _ => rfl
  have F__law_drawn := fun_mk (st := s__law_drawn) l__law_drawn c__law_drawn k__law_drawn
  have b__law_drawn := F__law_drawn.binds (ps := ["_law_script", "_law_bound"]) fun _ _ _ _ _ _ us hl => match us, hl with | [_, _], _ => rfl
  have F__law_within := fun_mk (st := s__law_within) l__law_within c__law_within k__law_within
  have b__law_within := F__law_within.binds (ps := ["_law_one", "_law_other"]) fun _ _ _ _ _ _ us hl => match us, hl with | [_, _], _ => rfl
  have F__law_says := fun_mk (st := s__law_says) l__law_says c__law_says k__law_says
  have b__law_says := F__law_says.binds (ps := ["_law_family_here", "_law_one"]) fun _ _ _ _ _ _ us hl => match us, hl with | [_, _], _ => rfl
  have F__law_refused := fun_mk (st := s__law_refused) l__law_refused c__law_refused k__law_refused
  have b__law_refused := F__law_refused.binds (ps := ["_law_many", "_law_family_here"]) fun _ _ _ _ _ _ us hl => match us, hl with | [_, _], _ => rfl
  have F__law_parts := fun_mk (st := s__law_parts) l__law_parts c__law_parts k__law_parts
  have b__law_parts := F__law_parts.binds (ps := ["_law_many", "_law_family_here", "_law_x", "_law_y"]) fun _ _ _ _ _ _ us hl => match us, hl with | [_, _, _, _], _ => rfl
  have F__law_apart := fun_mk (st := s__law_apart) l__law_apart c__law_apart k__law_apart
  have b__law_apart := F__law_apart.binds (ps := ["_law_many", "_law_family_here"]) fun _ _ _ _ _ _ us hl => match us, hl with | [_, _], _ => rfl
  have F_law := fun_mk (st := s_law) l_law c_law k_law
  refine ⟨PySem.W.fnOf "law" "law" (defArgs s_law) (defBody s_law) (defScope s_law) .none kV_law dc_law pm_law an_law cd_law ct_law, fun s v => .of_eq rfl, fun base _ _ => ?_⟩
  have C_names_in : Cal l.prog w K mg base "names_in" 1 ["one"] spNamesIn _ _ := ⟨ok_names_in F_names_in T , PySem.W.mg_of X G a_names_in, k_names_in, b_names_in⟩
  have C_holds : Cal l.prog w K mg base "holds" 1 ["one", "other"] spHolds _ _ := ⟨ok_holds F_holds T , PySem.W.mg_of X G a_holds, k_holds, b_holds⟩
  have C_meets : Cal l.prog w K mg base "meets" 1 ["one", "other"] spMeets _ _ := ⟨ok_meets F_meets T , PySem.W.mg_of X G a_meets, k_meets, b_meets⟩
  have C_rest : Cal l.prog w K mg base "rest" 1 ["many", "one"] spRest _ _ := ⟨ok_rest F_rest T , PySem.W.mg_of X G a_rest, k_rest, b_rest⟩
  have C_says : Cal l.prog w K mg base "says" 2 ["family", "one"] (spSays K) _ _ := ⟨ok_says F_says T C_holds, PySem.W.mg_of X G a_says, k_says, b_says⟩
  have C_least : Cal l.prog w K mg base "least" 3 ["some"] (spLeast K) _ _ := ⟨ok_least F_least T C_says, PySem.W.mg_of X G a_least, k_least, b_least⟩
  have C_rests : Cal l.prog w K mg base "rests" 2 ["many", "family"] (spRests K) _ _ := ⟨ok_rests F_rests T C_rest, PySem.W.mg_of X G a_rests, k_rests, b_rests⟩
  have C_first_missed : Cal l.prog w K mg base "first_missed" 2 ["family", "one"] (spFirst K) _ _ := ⟨ok_first_missed F_first_missed T C_meets, PySem.W.mg_of X G a_first_missed, k_first_missed, b_first_missed⟩
  have C_hits : Cal l.prog w K mg base "hits" 3 ["many", "family"] (spHits K) _ _ := ⟨ok_hits F_hits T C_says C_first_missed, PySem.W.mg_of X G a_hits, k_hits, b_hits⟩
  have C_table_of : Cal l.prog w K mg base "table_of" 3 ["many", "family"] (spTableOf K) _ _ := ⟨ok_table_of F_table_of T C_says, PySem.W.mg_of X G a_table_of, k_table_of, b_table_of⟩
  have C_noes_by : Cal l.prog w K mg base "noes_by" 4 ["many", "family"] (spNoesBy K) _ _ := ⟨ok_noes_by F_noes_by T C_rests C_hits, PySem.W.mg_of X G a_noes_by, k_noes_by, b_noes_by⟩
  have C_first_parting : Cal l.prog w K mg base "first_parting" 2 ["many", "table", "x", "y"] (spParting K) _ _ := ⟨ok_first_parting F_first_parting T C_meets, PySem.W.mg_of X G a_first_parting, k_first_parting, b_first_parting⟩
  have C_compared_in : Cal l.prog w K mg base "compared_in" 3 ["many", "table", "x", "y"] (spComparedIn K) _ _ := ⟨ok_compared_in F_compared_in T C_first_parting, PySem.W.mg_of X G a_compared_in, k_compared_in, b_compared_in⟩
  have C_turned_by : Cal l.prog w K mg base "turned_by" 1 ["many", "table", "k"] (spTurned K) _ _ := ⟨ok_turned_by F_turned_by T , PySem.W.mg_of X G a_turned_by, k_turned_by, b_turned_by⟩
  have C_turns : Cal l.prog w K mg base "turns" 4 ["many", "family"] (spTurns K) _ _ := ⟨ok_turns F_turns T C_table_of C_turned_by, PySem.W.mg_of X G a_turns, k_turns, b_turns⟩
  have C_ranked : Cal l.prog w K mg base "ranked" 1 ["counts"] (spRanked K) _ _ := ⟨ok_ranked F_ranked T , PySem.W.mg_of X G a_ranked, k_ranked, b_ranked⟩
  have C_ranks : Cal l.prog w K mg base "ranks" 5 ["many", "family"] (spRanks K) _ _ := ⟨ok_ranks F_ranks T C_table_of C_ranked C_compared_in C_turns, PySem.W.mg_of X G a_ranks, k_ranks, b_ranks⟩
  have C_weight_of : Cal l.prog w K mg base "weight_of" 2 ["weights", "one"] (spWeightOf K) _ _ := ⟨ok_weight_of F_weight_of T C_names_in, PySem.W.mg_of X G a_weight_of, k_weight_of, b_weight_of⟩
  have C_traded : Cal l.prog w K mg base "traded" 1 ["x", "y", "s", "t"] spTraded _ _ := ⟨ok_traded F_traded T , PySem.W.mg_of X G a_traded, k_traded, b_traded⟩
  have C_bar_between : Cal l.prog w K mg base "bar_between" 3 ["weights", "yes", "no"] (spBarB K) _ _ := ⟨ok_bar_between F_bar_between T C_weight_of, PySem.W.mg_of X G a_bar_between, k_bar_between, b_bar_between⟩
  have D_falling_lists : ∀ n, Cal l.prog w K mg base "falling_lists" (1 + n) ["length", "most"] (spFl K n) f_falling_lists (PySem.W.fnOf "falling_lists" "falling_lists" (defArgs s_falling_lists) (defBody s_falling_lists) (defScope s_falling_lists) .none kV_falling_lists dc_falling_lists pm_falling_lists an_falling_lists cd_falling_lists ct_falling_lists) := fun n => by
    induction n with
    | zero => exact ⟨z_falling_lists F_falling_lists, PySem.W.mg_of X G a_falling_lists, k_falling_lists, b_falling_lists⟩
    | succ n ih => exact ⟨ok_falling_lists F_falling_lists T  n ih, PySem.W.mg_of X G a_falling_lists, k_falling_lists, b_falling_lists⟩
  have C_falling_lists := D_falling_lists 6
  have C_given_out : Cal l.prog w K mg base "given_out" 1 ["many", "lists", "falling"] (spGiven K) _ _ := ⟨ok_given_out F_given_out T , PySem.W.mg_of X G a_given_out, k_given_out, b_given_out⟩
  have C_weighed : Cal l.prog w K mg base "weighed" 8 ["many", "family", "lists"] (spWgd K) _ _ := ⟨ok_weighed F_weighed T C_least C_noes_by C_falling_lists C_given_out C_bar_between, PySem.W.mg_of X G a_weighed, k_weighed, b_weighed⟩
  have C_by_weights : CalX l.prog w K mg base "by_weights" 9 ["many", "family"] (spBy K cT) _ _ := ⟨ok_by_weights F_by_weights T Z C_ranks C_weighed C_traded, PySem.W.mg_of X G a_by_weights, k_by_weights, b_by_weights⟩
  have C__law_cells : Cal l.prog w K mg base "_law_cells" 1 ["_law_script", "_law_amount"] (spCells K) _ _ := ⟨ok__law_cells F__law_cells T , PySem.W.mg_of X G a__law_cells, k__law_cells, b__law_cells⟩
  have C__law_family : Cal l.prog w K mg base "_law_family" 1 ["_law_cells_here", "_law_many"] (spFamily K) _ _ := ⟨ok__law_family F__law_family T , PySem.W.mg_of X G a__law_family, k__law_family, b__law_family⟩
  have C__law_drawn : Cal l.prog w K mg base "_law_drawn" 2 ["_law_script", "_law_bound"] (spDrawn K) _ _ := ⟨ok__law_drawn F__law_drawn T C__law_cells C__law_family, PySem.W.mg_of X G a__law_drawn, k__law_drawn, b__law_drawn⟩
  have C__law_within : Cal l.prog w K mg base "_law_within" 1 ["_law_one", "_law_other"] spWithin _ _ := ⟨ok__law_within F__law_within T , PySem.W.mg_of X G a__law_within, k__law_within, b__law_within⟩
  have C__law_says : Cal l.prog w K mg base "_law_says" 2 ["_law_family_here", "_law_one"] (spLSays K) _ _ := ⟨ok__law_says F__law_says T C__law_within, PySem.W.mg_of X G a__law_says, k__law_says, b__law_says⟩
  have C__law_refused : Cal l.prog w K mg base "_law_refused" 10 ["_law_many", "_law_family_here"] (spRefused K) _ _ := ⟨ok__law_refused F__law_refused T Z C_by_weights, PySem.W.mg_of X G a__law_refused, k__law_refused, b__law_refused⟩
  have C__law_parts : Cal l.prog w K mg base "_law_parts" 3 ["_law_many", "_law_family_here", "_law_x", "_law_y"] (spLParts K) _ _ := ⟨ok__law_parts F__law_parts T C__law_says, PySem.W.mg_of X G a__law_parts, k__law_parts, b__law_parts⟩
  have C__law_apart : Cal l.prog w K mg base "_law_apart" 4 ["_law_many", "_law_family_here"] (spLApart K) _ _ := ⟨ok__law_apart F__law_apart T C__law_parts, PySem.W.mg_of X G a__law_apart, k__law_apart, b__law_apart⟩
  exact ok_law F_law T C__law_drawn C__law_refused C__law_apart
theorem walk {l : PySem.W.OpenLaw} {q : Program} {loose : List Str} {XP : (Str → Option Value) → Heap → Prop} {YP : World → Heap → Prop} {d : DefRec} {K : Params → PySem.W.Frag} (hn : l.most = some 63) (hdf : d.params.defaults = [])
    (hY : ∀ (w : World) (h : Heap), YP w h → (K w.params).In h)
    (F : ∀ (w : World) (mg : Str → Option Value) (fa : Addr) (h : Heap), (K w.params).In h → h.Ns mainGlobals mg → mg d.name = some (.ref fa) →
      ∃ fd : FuncData, (∀ (s : Shared) (u : Value), BindsTo s fd ⟨[u], []⟩ [("_law_script", u)]) ∧ ∀ base : Heap, (K w.params).In base → base.Ns mainGlobals mg → FnOk l.prog w (K w.params) mg base CX0 11 fa fd ["_law_script"] ((spLaw (K w.params)))) :
    PySem.W.WalkO q loose XP YP l.row.toRowW d [] (fun f vs => PySem.call f vs) :=
  L2.walk_of (n := 63) (k := 11) (x := "_law_script") (CX := fun _ => CX0) (sp := fun w => (spLaw (K w.params))) hn (by decide) hdf ⟨rfl, by decide, by decide⟩ hY F (fun _ _ a ns hl _ hS => ⟨_, rfl, a, ns, rfl, hS, hl, fun _ => rfl⟩) fun _ _ _ _ _ z => z
end Zk42
open PySem PySem.W PyProof.Rows
set_option maxRecDepth 100000 in
set_option maxHeartbeats 0 in
theorem PySem.Challenge.cw_allhits_k42_votes_refused_and_apart_holds : PySem.Challenge.rw_allhits_k42_votes_refused_and_apart.Holds := by
  w_on; o_law; k_head; (case hw => w_witness2)
  k_fill
  refine Zk42.walk (l := PySem.Challenge.rw_allhits_k42_votes_refused_and_apart) rfl rfl (fun w h Y => PySem.W.kIn_of Y) ?F
  case F =>
    intro w mg fa h KX G hmg
    refine' Zk42.all_mk KX G hmg ?a_names_in ?l_names_in ?c_names_in ?k_names_in ?a_holds ?l_holds ?c_holds ?k_holds ?a_meets ?l_meets ?c_meets ?k_meets ?a_rest ?l_rest ?c_rest ?k_rest ?a_says ?l_says ?c_says ?k_says ?a_least ?l_least ?c_least ?k_least ?a_rests ?l_rests ?c_rests ?k_rests ?a_first_missed ?l_first_missed ?c_first_missed ?k_first_missed ?a_hits ?l_hits ?c_hits ?k_hits ?a_table_of ?l_table_of ?c_table_of ?k_table_of ?a_noes_by ?l_noes_by ?c_noes_by ?k_noes_by ?a_first_parting ?l_first_parting ?c_first_parting ?k_first_parting ?a_compared_in ?l_compared_in ?c_compared_in ?k_compared_in ?a_turned_by ?l_turned_by ?c_turned_by ?k_turned_by ?a_turns ?l_turns ?c_turns ?k_turns ?a_ranked ?l_ranked ?c_ranked ?k_ranked ?a_ranks ?l_ranks ?c_ranks ?k_ranks ?a_weight_of ?l_weight_of ?c_weight_of ?k_weight_of ?a_traded ?l_traded ?c_traded ?k_traded ?a_bar_between ?l_bar_between ?c_bar_between ?k_bar_between ?a_falling_lists ?l_falling_lists ?c_falling_lists ?k_falling_lists ?a_given_out ?l_given_out ?c_given_out ?k_given_out ?a_weighed ?l_weighed ?c_weighed ?k_weighed ?a_by_weights ?l_by_weights ?c_by_weights ?k_by_weights ?a__law_cells ?l__law_cells ?c__law_cells ?k__law_cells ?a__law_family ?l__law_family ?c__law_family ?k__law_family ?a__law_drawn ?l__law_drawn ?c__law_drawn ?k__law_drawn ?a__law_within ?l__law_within ?c__law_within ?k__law_within ?a__law_says ?l__law_says ?c__law_says ?k__law_says ?a__law_refused ?l__law_refused ?c__law_refused ?k__law_refused ?a__law_parts ?l__law_parts ?c__law_parts ?k__law_parts ?a__law_apart ?l__law_apart ?c__law_apart ?k__law_apart ?a_law ?l_law ?c_law ?k_law ?z_range ?z_sorted ?z_set ?z_len ?z_reversed ?z_enumerate ?z_sum ?z_max ?z_min ?z_zip ?z_isinstance ?z_int ?z_ValueError ?v_MOST_WEIGHT ?v_MOST_VOTERS ?gT ?gH ?gF ?gD ?gN ?gX ?xT ?xH ?eH ?eT ?f1 ?f2 ?f3 ?e1 ?e2 ?e3 ?sF ?tF ?qF ?dF ?sD ?tD ?qD ?dD ?sN ?tN ?qN ?dN ?sX ?tX ?qX ?dX
    (case a_names_in => k_is)
    (case l_names_in => k_is)
    (case c_names_in => k_is)
    (case k_names_in => k_is)
    (case a_holds => k_is)
    (case l_holds => k_is)
    (case c_holds => k_is)
    (case k_holds => k_is)
    (case a_meets => k_is)
    (case l_meets => k_is)
    (case c_meets => k_is)
    (case k_meets => k_is)
    (case a_rest => k_is)
    (case l_rest => k_is)
    (case c_rest => k_is)
    (case k_rest => k_is)
    (case a_says => k_is)
    (case l_says => k_is)
    (case c_says => k_is)
    (case k_says => k_is)
    (case a_least => k_is)
    (case l_least => k_is)
    (case c_least => k_is)
    (case k_least => k_is)
    (case a_rests => k_is)
    (case l_rests => k_is)
    (case c_rests => k_is)
    (case k_rests => k_is)
    (case a_first_missed => k_is)
    (case l_first_missed => k_is)
    (case c_first_missed => k_is)
    (case k_first_missed => k_is)
    (case a_hits => k_is)
    (case l_hits => k_is)
    (case c_hits => k_is)
    (case k_hits => k_is)
    (case a_table_of => k_is)
    (case l_table_of => k_is)
    (case c_table_of => k_is)
    (case k_table_of => k_is)
    (case a_noes_by => k_is)
    (case l_noes_by => k_is)
    (case c_noes_by => k_is)
    (case k_noes_by => k_is)
    (case a_first_parting => k_is)
    (case l_first_parting => k_is)
    (case c_first_parting => k_is)
    (case k_first_parting => k_is)
    (case a_compared_in => k_is)
    (case l_compared_in => k_is)
    (case c_compared_in => k_is)
    (case k_compared_in => k_is)
    (case a_turned_by => k_is)
    (case l_turned_by => k_is)
    (case c_turned_by => k_is)
    (case k_turned_by => k_is)
    (case a_turns => k_is)
    (case l_turns => k_is)
    (case c_turns => k_is)
    (case k_turns => k_is)
    (case a_ranked => k_is)
    (case l_ranked => k_is)
    (case c_ranked => k_is)
    (case k_ranked => k_is)
    (case a_ranks => k_is)
    (case l_ranks => k_is)
    (case c_ranks => k_is)
    (case k_ranks => k_is)
    (case a_weight_of => k_is)
    (case l_weight_of => k_is)
    (case c_weight_of => k_is)
    (case k_weight_of => k_is)
    (case a_traded => k_is)
    (case l_traded => k_is)
    (case c_traded => k_is)
    (case k_traded => k_is)
    (case a_bar_between => k_is)
    (case l_bar_between => k_is)
    (case c_bar_between => k_is)
    (case k_bar_between => k_is)
    (case a_falling_lists => k_is)
    (case l_falling_lists => k_is)
    (case c_falling_lists => k_is)
    (case k_falling_lists => k_is)
    (case a_given_out => k_is)
    (case l_given_out => k_is)
    (case c_given_out => k_is)
    (case k_given_out => k_is)
    (case a_weighed => k_is)
    (case l_weighed => k_is)
    (case c_weighed => k_is)
    (case k_weighed => k_is)
    (case a_by_weights => k_is)
    (case l_by_weights => k_is)
    (case c_by_weights => k_is)
    (case k_by_weights => k_is)
    (case a__law_cells => k_is)
    (case l__law_cells => k_is)
    (case c__law_cells => k_is)
    (case k__law_cells => k_is)
    (case a__law_family => k_is)
    (case l__law_family => k_is)
    (case c__law_family => k_is)
    (case k__law_family => k_is)
    (case a__law_drawn => k_is)
    (case l__law_drawn => k_is)
    (case c__law_drawn => k_is)
    (case k__law_drawn => k_is)
    (case a__law_within => k_is)
    (case l__law_within => k_is)
    (case c__law_within => k_is)
    (case k__law_within => k_is)
    (case a__law_says => k_is)
    (case l__law_says => k_is)
    (case c__law_says => k_is)
    (case k__law_says => k_is)
    (case a__law_refused => k_is)
    (case l__law_refused => k_is)
    (case c__law_refused => k_is)
    (case k__law_refused => k_is)
    (case a__law_parts => k_is)
    (case l__law_parts => k_is)
    (case c__law_parts => k_is)
    (case k__law_parts => k_is)
    (case a__law_apart => k_is)
    (case l__law_apart => k_is)
    (case c__law_apart => k_is)
    (case k__law_apart => k_is)
    (case a_law => k_is)
    (case l_law => k_is)
    (case c_law => k_is)
    (case k_law => k_is)
    (case z_range => k_is)
    (case z_sorted => k_is)
    (case z_set => k_is)
    (case z_len => k_is)
    (case z_reversed => k_is)
    (case z_enumerate => k_is)
    (case z_sum => k_is)
    (case z_max => k_is)
    (case z_min => k_is)
    (case z_zip => k_is)
    (case z_isinstance => k_is)
    (case z_int => k_is)
    (case z_ValueError => k_is)
    (case v_MOST_WEIGHT => k_is)
    (case v_MOST_VOTERS => k_is)
    (case gT => k_is)
    (case gH => k_is)
    (case gF => k_is)
    (case gD => k_is)
    (case gN => k_is)
    (case gX => k_is)
    (case xT => k_exc)
    (case xH => k_exc)
    (case eH => k_is)
    (case eT => k_is)
    (case f1 => k_is)
    (case f2 => k_is)
    (case f3 => k_is)
    (case e1 => k_is)
    (case e2 => k_is)
    (case e3 => k_is)
    (case sF => k_is)
    (case tF => k_is)
    (case qF => k_is)
    (case dF => rfl)
    (case sD => k_is)
    (case tD => k_is)
    (case qD => k_is)
    (case dD => rfl)
    (case sN => k_is)
    (case tN => k_is)
    (case qN => k_is)
    (case dN => rfl)
    (case sX => k_is)
    (case tX => k_is)
    (case qX => k_is)
    (case dX => rfl)
