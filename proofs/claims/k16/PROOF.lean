import PyProof.Rows.All
import Wide.All
import OpenK.AllK
import Wide.FinOn
import Lean
import PyProof.EqAt
import PyProof.EqKinds
import PyProof.TupleCall
import PyProof.CompFree
import PyProof.CollectWalk
import PyProof.Rows.SetFrom
import PyProof.Rows.SortShell
import PySem.Challenge.RW_allhits_k16_papers_looked_at
set_option Elab.async false
set_option linter.all false
set_option maxRecDepth 100000
namespace L2
open PySem PySem.Spec PyProof.Rows
abbrev Key := Sum Int Str
def keyIs : Key → Value → Bool
  | .inl k, v => Value.isInt k v
  | .inr x, v => Value.isStrOf x v
def keyH (w : World) : Key → Int
  | .inl k => hashInt k
  | .inr x => hashStr w x
theorem keyIs_shape : ∀ {k : Key} {v : Value}, keyIs k v = true → (∃ i t, k = Sum.inl i ∧ v = Value.int i t) ∨ (∃ x t, k = Sum.inr x ∧ v = Value.str x t)
  | .inl i, v, h => by
    obtain ⟨t, e⟩ := Value.isInt_shape (k := i) (v := v) h
    exact .inl ⟨i, t, rfl, e⟩
  | .inr x, v, h => by
    obtain ⟨t, e⟩ := Value.isStrOf_shape (x := x) (v := v) h
    exact .inr ⟨x, t, rfl, e⟩
theorem keyIs_int (i : Int) (t : Tok) : keyIs (.inl i) (.int i t) = true := by simp [keyIs, Value.isInt]
theorem keyIs_str (x : Str) (t : Tok) : keyIs (.inr x) (.str x t) = true := by simp [keyIs, Value.isStrOf]
theorem key_ll (a b : Int) : decide ((Sum.inl a : Key) = Sum.inl b) = (a == b) := by
  by_cases e : a = b
  · subst e; simp
  · have h : ¬ (Sum.inl a : Key) = Sum.inl b := fun q => e (Sum.inl.inj q)
    rw [decide_eq_false h]
    exact (beq_eq_false_iff_ne.mpr e).symm
theorem key_rr (a b : Str) : decide ((Sum.inr a : Key) = Sum.inr b) = decide (a = b) := by
  by_cases e : a = b
  · subst e; simp
  · have h : ¬ (Sum.inr a : Key) = Sum.inr b := fun q => e (Sum.inr.inj q)
    rw [decide_eq_false h, decide_eq_false e]
theorem key_lr (a : Int) (b : Str) : decide ((Sum.inl a : Key) = Sum.inr b) = false := decide_eq_false (fun q => nomatch q)
theorem key_rl (a : Str) (b : Int) : decide ((Sum.inr a : Key) = Sum.inl b) = false := decide_eq_false (fun q => nomatch q)
def mixKind (prog : Program) (w : World) : PySem.KeyKind prog w Key where
  is := keyIs
  hash := keyH w
  inj := fun v a b ha hb => by
    rcases keyIs_shape ha with ⟨i, t, rfl, rfl⟩ | ⟨x, t, rfl, rfl⟩
    · rcases keyIs_shape hb with ⟨j, u, rfl, e⟩ | ⟨y, u, rfl, e⟩
      · injection e with e1 _; rw [e1]
      · exact nomatch e
    · rcases keyIs_shape hb with ⟨j, u, rfl, e⟩ | ⟨y, u, rfl, e⟩
      · exact nomatch e
      · injection e with e1 _; rw [e1]
  byValue := fun k v h => by
    rcases keyIs_shape h with ⟨i, t, rfl, rfl⟩ | ⟨x, t, rfl, rfl⟩ <;> rfl
  pyHash := fun hv h => by
    rcases keyIs_shape hv with ⟨i, t, rfl, rfl⟩ | ⟨x, t, rfl, rfl⟩
    · exact wpAny_pyHash_int h
    · exact wpAny_pyHash_str h
  eqBool := fun hu hv h => by
    rcases keyIs_shape hu with ⟨i, t, rfl, rfl⟩ | ⟨x, t, rfl, rfl⟩
    · rcases keyIs_shape hv with ⟨j, u, rfl, rfl⟩ | ⟨y, u, rfl, rfl⟩
      · rw [key_ll] at h; exact wpAny_eqBool_int h
      · rw [key_lr] at h; exact SeqAt.EqAt.int_str i t y u _ _ _ _ h
    · rcases keyIs_shape hv with ⟨j, u, rfl, rfl⟩ | ⟨y, u, rfl, rfl⟩
      · rw [key_rl] at h; exact SeqAt.EqAt.str_int x t j u _ _ _ _ h
      · rw [key_rr] at h; exact wpAny_eqBool_str h
  «strs» := fun k x t v h => by
    rcases keyIs_shape h with ⟨i, u, rfl, e⟩ | ⟨y, u, rfl, e⟩
    · exact nomatch e
    · injection e with e1 _
      subst e1
      cases v <;> rfl
theorem mixKind_int (prog : Program) (w : World) (i : Int) (t : Tok) : (mixKind prog w).is (.inl i) (.int i t) = true := keyIs_int i t
theorem mixKind_str (prog : Program) (w : World) (x : Str) (t : Tok) : (mixKind prog w).is (.inr x) (.str x t) = true := keyIs_str x t
end L2
namespace L2
open PySem PySem.Spec PyProof.Rows
inductive V where
  | non | bl (b : Bool) | int (i : Int) | str (x : Str) | byt (b : Array UInt8) | flt (b : UInt64) | ref (a : Addr) | ty (n : String)
  deriving DecidableEq
def RelV : V → Value → Prop
  | .non, u => u = Value.none
  | .bl b, u => u = Value.bool b
  | .int i, u => ∃ t, u = Value.int i t
  | .str x, u => ∃ t, u = Value.str x t
  | .byt b, u => ∃ t, u = Value.bytes b t
  | .flt b, u => ∃ t, u = Value.float b t
  | .ref a, u => u = Value.ref a
  | .ty n, u => u = Value.type n
abbrev Vals : List V → List Value → Prop := Paired RelV
theorem Vals.length {xs : List V} {us : List Value} (r : Vals xs us) : xs.length = us.length := Paired.length r
theorem Vals.get : ∀ {xs : List V} {us : List Value} {i : Nat} {x : V}, Vals xs us → xs[i]? = some x → ∃ u, us[i]? = some u ∧ RelV x u
  | _, _, _, _, .nil, e => by simp at e
  | _, _, 0, _, .cons r _, e => by simp at e; subst e; exact ⟨_, rfl, r⟩
  | _, _, i + 1, x, .cons _ t, e => by
    obtain ⟨u, h1, h2⟩ := Vals.get (i := i) (x := x) t (by simpa using e)
    exact ⟨u, by simpa using h1, h2⟩
theorem Vals.set {x : V} {u : Value} (r : RelV x u) : ∀ {xs : List V} {us : List Value} (i : Nat), Vals xs us → Vals (xs.set i x) (us.set i u)
  | _, _, _, .nil => .nil
  | _, _, 0, .cons _ t => .cons r t
  | _, _, i + 1, .cons q t => .cons q (Vals.set r i t)
theorem Vals.append : ∀ {xs ys : List V} {us ws : List Value}, Vals xs us → Vals ys ws → Vals (xs ++ ys) (us ++ ws)
  | _, _, _, _, .nil, s => s
  | _, _, _, _, .cons r t, s => .cons r (Vals.append t s)
theorem Vals.take : ∀ {xs : List V} {us : List Value} (n : Nat), Vals xs us → Vals (xs.take n) (us.take n)
  | _, _, 0, _ => .nil
  | _, _, _ + 1, .nil => .nil
  | _, _, n + 1, .cons r t => .cons r (Vals.take n t)
theorem Vals.drop : ∀ {xs : List V} {us : List Value} (n : Nat), Vals xs us → Vals (xs.drop n) (us.drop n)
  | _, _, 0, r => r
  | _, _, _ + 1, .nil => .nil
  | _, _, n + 1, .cons _ t => Vals.drop n t
def RelO : Option V → Option Value → Prop
  | some v, some u => RelV v u
  | none, none => True
  | _, _ => False
def KV {κ : Type} : List (κ × V) → List (κ × Value) → Prop := Paired fun (p : κ × V) (q : κ × Value) => p.1 = q.1 ∧ RelV p.2 q.2
def kV : Key → V
  | .inl i => .int i
  | .inr x => .str x
inductive HO where
  
  | lst (xs : List V)
  
  | tup (xs : List V)
  
  | dK (kvs : List (Key × V)) | dT (kvs : List (List Key × V))
  
  | set (S : Int → Bool) (n : Nat)
  
  | ins (C dx : Addr) (fs : List (Str × V))
  
  | own (x : Addr)
  
  | xd (fs : List (Str × V))
  
  | met (f x : Addr)
  
  | rng (lo hi : Int)
  
  | frz (o : Obj) (u : HO)
  
  | tbl (ps : Array Value)
  
  | ext (φ : Heap → Prop)
abbrev Hp := Addr → Option HO
def upd (H : Hp) (a : Addr) (o : HO) : Hp := fun b => if b = a then some o else H b
theorem upd_same {H : Hp} {a : Addr} {o : HO} : upd H a o a = some o := by unfold upd; rw [if_pos rfl]
theorem upd_ne {H : Hp} {a b : Addr} {o : HO} (h : b ≠ a) : upd H a o b = H b := by unfold upd; rw [if_neg h]
theorem upd_upd {H : Hp} {a : Addr} {o u : HO} : upd (upd H a o) a u = upd H a u := by
  funext b; unfold upd; split <;> rfl
theorem ne_of {H : Hp} {a b : Addr} {o u : HO} (h : H a = some o) (h' : H b = some u) (d : o ≠ u) : a ≠ b := by
  intro e; subst e; rw [h] at h'; exact d (Option.some.inj h')
theorem ne_of_none {H : Hp} {a b : Addr} {o : HO} (h : H a = some o) (h' : H b = none) : a ≠ b := by
  intro e; subst e; rw [h] at h'; cases h'
section
variable (P : Program) (w : World)
def ObjOk (H : Hp) (h : Heap) (a : Addr) : HO → Prop
  | .lst xs => xs.length ≤ sizeLine ∧ ∃ (its : List Value) (n : Nat), Vals xs its ∧ h.get? a = some { cls := .type "list", data := .seq its.toArray n }
  | .tup xs => xs.length ≤ sizeLine ∧ ∃ its : List Value, Vals xs its ∧ IsTup h a its.toArray
  | .dK kvs => kvs.length ≤ sizeLine ∧ (a == sysModules) = false ∧ ∃ vs, KV kvs vs ∧ h.DictOf (mixKind P w) a vs
  | .dT kvs => kvs.length ≤ sizeLine ∧ (a == sysModules) = false ∧ ∃ xs : List (List Key × Addr × Value),
      Paired (fun (p : List Key × V) (q : List Key × Addr × Value) => p.1 = q.1 ∧ H q.2.1 = some (.tup (p.1.map kV)) ∧ RelV p.2 q.2.2) kvs xs ∧
      ∃ o es ep, h.get? a = some o ∧ o.ExactDict ∧ o.data = .dict es ep ∧ es.toList = xs.map (entryOfKey (tupleKind (mixKind P w))) ∧ (xs.map (·.1)).Nodup
  | .set S n => h.SetOf (intKind P w) a S n
  | .ins C dx fs => H dx = some (.own a) ∧ fs.length ≤ 1000 ∧ dx ≠ a ∧ h.get? a = some (PySem.W.instObj C dx) ∧
      ∃ mA, h.Ns1 dx mA ∧ (∀ f, RelO (fs.lookup f) (mA f)) ∧ PySem.Within mA (fs.map (·.1))
  | .own _ => ∃ o, h.get? a = some o
  | .xd fs => ∃ mA, h.Ns1 a mA ∧ ∀ f, RelO (fs.lookup f) (mA f)
  | .rng lo hi => ∃ t u v, h.get? a = some { cls := .type "range", data := .fields #[.int lo t, .int hi u, .int 1 v] }
  | .frz o u => h.get? a = some o ∧ ObjOk H h a u
  | .tbl ps => h.get? a = some { cls := .none, data := .fields ps }
  | .met f x => h.get? a = some (PySem.W.methodObj (.ref f) (.ref x))
  | .ext φ => φ h ∧ (∃ o, h.get? a = some o) ∧ ∀ h1 h2 : Heap, φ h1 → (∀ o, h1.get? a = some o → h2.get? a = some o) → φ h2
def HOk (H : Hp) (h : Heap) : Prop := ∀ a o, H a = some o → ObjOk P w H h a o
end
section
variable {P : Program} {w : World} {H H' : Hp} {h h' : Heap} {a : Addr} {o : HO}
theorem ObjOk.lt (x : ObjOk P w H h a o) : a < h.objs.size := by
  cases o with
  | lst xs => obtain ⟨_, _, _, _, e⟩ := x; exact Heap.lt_size e
  | tup xs => obtain ⟨_, _, _, p⟩ := x; exact p.lt
  | dK kvs => obtain ⟨_, _, _, _, o, _, _, e, _⟩ := x; exact Heap.lt_size e
  | dT kvs => obtain ⟨_, _, _, _, o, _, _, e, _⟩ := x; exact Heap.lt_size e
  | set S n => obtain ⟨o, _, _, _, e, _⟩ := x; exact Heap.lt_size e
  | ins C dx fs => obtain ⟨_, _, _, e, _⟩ := x; exact Heap.lt_size e
  | own y => obtain ⟨_, e⟩ := x; exact Heap.lt_size e
  | xd fs => obtain ⟨_, ⟨_, _, _, e, _⟩, _⟩ := x; exact Heap.lt_size e
  | rng lo hi => obtain ⟨_, _, _, e⟩ := x; exact Heap.lt_size e
  | frz ob u => obtain ⟨e, _⟩ := x; exact Heap.lt_size e
  | tbl ps => exact Heap.lt_size (show h.get? a = some _ from x)
  | met f y => exact Heap.lt_size (show h.get? a = some _ from x)
  | ext φ => obtain ⟨_, ⟨_, e⟩, _⟩ := x; exact Heap.lt_size e
theorem Paired.mapP {α β : Type} {F G : α → β → Prop} : ∀ {l₁ : List α} {l₂ : List β}, Paired F l₁ l₂ → (∀ a b, F a b → G a b) → Paired G l₁ l₂
  | _, _, .nil, _ => .nil
  | _, _, .cons r t, f => .cons (f _ _ r) (Paired.mapP t f)
theorem ObjOk.stay (x : ObjOk P w H h a o) (k : ∀ b u, (b = a ∨ H b = some (.own a)) → h.get? b = some u → h'.get? b = some u)
    (ho : ∀ b, H b = some (.own a) → H' b = some (.own a)) (ht : ∀ b xs, H b = some (.tup xs) → H' b = some (.tup xs)) : ObjOk P w H' h' a o := by
  induction o with
  | lst xs => obtain ⟨z, its, n, r, e⟩ := x; exact ⟨z, its, n, r, k _ _ (.inl rfl) e⟩
  | tup xs => obtain ⟨z, its, r, ob, e, c⟩ := x; exact ⟨z, its, r, ob, k _ _ (.inl rfl) e, c⟩
  | dK kvs => obtain ⟨z, y, vs, r, ob, es, ep, e, c⟩ := x; exact ⟨z, y, vs, r, ob, es, ep, k _ _ (.inl rfl) e, c⟩
  | dT kvs =>
    obtain ⟨z, y, xs, r, ob, es, ep, e, c⟩ := x
    exact ⟨z, y, xs, Paired.mapP r fun p q z => ⟨z.1, ht _ _ z.2.1, z.2.2⟩, ob, es, ep, k _ _ (.inl rfl) e, c⟩
  | set S n => obtain ⟨ob, es, ep, t, e, c⟩ := x; exact ⟨ob, es, ep, t, k _ _ (.inl rfl) e, c⟩
  | ins C dx fs =>
    obtain ⟨d, z, ne, e, mA, ⟨od, es, ep, e2, c⟩, r⟩ := x
    exact ⟨ho _ d, z, ne, k _ _ (.inl rfl) e, mA, ⟨od, es, ep, k _ _ (.inr d) e2, c⟩, r⟩
  | own y => obtain ⟨ob, e⟩ := x; exact ⟨ob, k _ _ (.inl rfl) e⟩
  | xd fs => obtain ⟨mA, ⟨od, es, ep, e, c⟩, r⟩ := x; exact ⟨mA, ⟨od, es, ep, k _ _ (.inl rfl) e, c⟩, r⟩
  | rng lo hi => obtain ⟨t, u, v, e⟩ := x; exact ⟨t, u, v, k _ _ (.inl rfl) e⟩
  | frz ob u ih => obtain ⟨e, q⟩ := x; exact ⟨k _ _ (.inl rfl) e, ih q⟩
  | tbl ps =>
    have e : h.get? a = some { cls := .none, data := .fields ps } := x
    show h'.get? a = some { cls := .none, data := .fields ps }
    exact k a _ (.inl rfl) e
  | met f y =>
    have e : h.get? a = some (PySem.W.methodObj (.ref f) (.ref y)) := x
    show h'.get? a = some (PySem.W.methodObj (.ref f) (.ref y))
    exact k a _ (.inl rfl) e
  | ext φ => obtain ⟨p, ⟨o, e⟩, st⟩ := x; exact ⟨st _ _ p fun o q => k _ _ (.inl rfl) q, ⟨o, k _ _ (.inl rfl) e⟩, st⟩
theorem HOk.lt (x : HOk P w H h) (e : H a = some o) : a < h.objs.size := (x a o e).lt
theorem HOk.fresh (x : HOk P w H h) (e : h.objs.size ≤ a) : H a = none := by
  cases q : H a with
  | none => rfl
  | some u => exact absurd (Nat.lt_of_lt_of_le (x.lt q) e) (Nat.lt_irrefl _)
theorem HOk.kept (x : HOk P w H h) (k : ∀ b u, h.get? b = some u → h'.get? b = some u) : HOk P w H h' := fun a o e =>
  (x a o e).stay (fun b u _ q => k b u q) (fun _ q => q) fun _ _ q => q
theorem HOk.laid (x : HOk P w H h) (k : ∀ b u, h.get? b = some u → h'.get? b = some u) (hp : h.objs.size ≤ a) (new : ObjOk P w (upd H a o) h' a o) : HOk P w (upd H a o) h' := fun b u e => by
  have hn := x.fresh hp
  by_cases hb : b = a
  · subst hb; rw [upd_same] at e; cases e; exact new
  · rw [upd_ne hb] at e
    exact (x b u e).stay (fun c v _ q => k c v q) (fun c q => by rw [upd_ne (ne_of_none q hn)]; exact q) fun c xs q => by rw [upd_ne (ne_of_none q hn)]; exact q
end
def Rd (H : Hp) (a : Addr) (u : HO) : Prop := H a = some u ∨ ∃ o, H a = some (.frz o u)
theorem Rd.of {H : Hp} {a : Addr} {u : HO} (h : H a = some u) : Rd H a u := .inl h
theorem Rd.ok {P : Program} {w : World} {H : Hp} {h : Heap} {a : Addr} {u : HO} (r : Rd H a u) (x : HOk P w H h) : ObjOk P w H h a u := by
  rcases r with r | ⟨o, r⟩
  · exact x a u r
  · obtain ⟨_, q⟩ := x a _ r
    exact q
def Mut : Option HO → Prop
  | some (.lst _) => True
  | some (.dK _) => True
  | some (.dT _) => True
  | some (.set _ _) => True
  | some (.ins _ _ _) => True
  | some (.ext _) => True
  | _ => False
section
variable {P : Program} {w : World} {H : Hp} {h h' : Heap} {x e : Addr} {o' : HO}
theorem HOk.write (ok : HOk P w H h) (mu : Mut (H x)) (he : e = x ∨ H e = some (.own x)) (k : ∀ b u, b ≠ e → h.get? b = some u → h'.get? b = some u) (heo : ∃ u, h'.get? e = some u)
    (new : ObjOk P w (upd H x o') h' x o') : HOk P w (upd H x o') h' := fun b u q => by
  have nown : ∀ c y, H c = some (.own y) → c ≠ x := fun c y r z => by subst z; rw [r] at mu; exact mu
  have ntup : ∀ c xs, H c = some (.tup xs) → c ≠ x := fun c xs r z => by subst z; rw [r] at mu; exact mu
  by_cases hb : b = x
  · subst hb; rw [upd_same] at q; cases q; exact new
  · rw [upd_ne hb] at q
    by_cases hbe : b = e
    · have q' : H b = some (.own x) := by
        rcases he with z | z
        · exact absurd (hbe.trans z) hb
        · rw [hbe]; exact z
      rw [q] at q'; cases q'
      obtain ⟨v, hv⟩ := heo
      exact ⟨v, by rw [hbe]; exact hv⟩
    · refine (ok b u q).stay (fun c v hc r => k c v ?_ r) (fun c r => by rw [upd_ne (nown c b r)]; exact r) fun c xs r => by rw [upd_ne (ntup c xs r)]; exact r
      rcases hc with rfl | hc
      · exact hbe
      · rintro rfl
        rcases he with z | z
        · exact nown c b hc z
        · rw [hc] at z; cases z; exact hb rfl
end
structure Un (fs ex : List Addr) (H H' : Hp) (h h' : Heap) : Prop where
  keep : ∀ b o, h.get? b = some o → H b = none → b ∉ fs → b ∉ ex → h'.get? b = some o
  slot : ∀ b o, h.get? b = some o → H b = none → b ∈ fs → b ∉ ex → ∃ sl, h'.get? b = some { o with slots := sl }
  free : ∀ b o, h.get? b = some o → H b = none → b ∉ ex → H' b = none
  there : ∀ b o, h.get? b = some o → b ∉ ex → ∃ o', h'.get? b = some o'
  tups : ∀ b xs, H b = some (.tup xs) → H' b = some (.tup xs)
  frzs : ∀ b o u, H b = some (.frz o u) → H' b = some (.frz o u)
  tbls : ∀ b ps, H b = some (.tbl ps) → ∃ more, H' b = some (.tbl (ps ++ more))
section
variable {fs fs' ex ex' : List Addr} {H H1 H2 : Hp} {h h1 h2 h' : Heap} {a x e : Addr} {o : HO}
theorem Un.any (u : Un fs ex H H1 h h1) {b : Addr} {ob : Obj} (q : h.get? b = some ob) (n : H b = none) (hx : b ∉ ex) : ∃ sl, h1.get? b = some { ob with slots := sl } := by
  by_cases hb : b ∈ fs
  · exact u.slot b ob q n hb hx
  · exact ⟨ob.slots, u.keep b ob q n hb hx⟩
theorem Un.trans (a : Un fs ex H H1 h h1) (b : Un fs ex H1 H2 h1 h2) : Un fs ex H H2 h h2 where
  keep := fun c ob q n hc hx => b.keep c ob (a.keep c ob q n hc hx) (a.free c ob q n hx) hc hx
  slot := fun c ob q n hc hx => by
    obtain ⟨sl, e1⟩ := a.slot c ob q n hc hx
    obtain ⟨sl', e2⟩ := b.slot c _ e1 (a.free c ob q n hx) hc hx
    exact ⟨sl', e2⟩
  free := fun c ob q n hx => by
    obtain ⟨o', e1⟩ := a.there c ob q hx
    exact b.free c o' e1 (a.free c ob q n hx) hx
  there := fun c ob q hx => by
    obtain ⟨o', e1⟩ := a.there c ob q hx
    exact b.there c o' e1 hx
  tups := fun c xs q => b.tups c xs (a.tups c xs q)
  frzs := fun c ob xs q => b.frzs c ob xs (a.frzs c ob xs q)
  tbls := fun c ps q => by
    obtain ⟨m1, e1⟩ := a.tbls c ps q
    obtain ⟨m2, e2⟩ := b.tbls c _ e1
    exact ⟨m1 ++ m2, by rw [e2, Array.append_assoc]⟩
theorem Un.kept (k : ∀ b u, h.get? b = some u → h'.get? b = some u) : Un fs ex H H h h' :=
  ⟨fun b ob q _ _ _ => k b ob q, fun b ob q _ _ _ => ⟨ob.slots, k b ob q⟩, fun _ _ _ n _ => n, fun b ob q _ => ⟨ob, k b ob q⟩, fun _ _ q => q, fun _ _ _ q => q, fun _ ps q => ⟨#[], by rw [q]; simp⟩⟩
theorem Un.refl : Un fs ex H H h h := Un.kept fun _ _ q => q
theorem Un.laid (k : ∀ b u, h.get? b = some u → h'.get? b = some u) (hp : h.objs.size ≤ a) (hn : H a = none) : Un fs ex H (upd H a o) h h' where
  keep := fun b u q _ _ _ => k b u q
  slot := fun b u q _ _ _ => ⟨u.slots, k b u q⟩
  free := fun b u q n _ => by rw [upd_ne (Nat.ne_of_lt (Nat.lt_of_lt_of_le (Heap.lt_size q) hp))]; exact n
  there := fun b u q _ => ⟨u, k b u q⟩
  tups := fun b xs q => by rw [upd_ne (ne_of_none q hn)]; exact q
  frzs := fun b u xs q => by rw [upd_ne (ne_of_none q hn)]; exact q
  tbls := fun b ps q => ⟨#[], by rw [upd_ne (ne_of_none q hn), q]; simp⟩
theorem Un.write (mu : Mut (H x)) (he : e = x ∨ H e = some (.own x)) (k : ∀ b u, b ≠ e → h.get? b = some u → h'.get? b = some u) (heo : ∃ u, h'.get? e = some u) : Un fs ex H (upd H x o) h h' := by
  have hx : ∀ b, H b = none → b ≠ x := fun b n z => by subst z; rw [n] at mu; exact mu
  have hb : ∀ b, H b = none → b ≠ e := fun b n z => by
    subst z
    rcases he with r | r
    · exact hx b n r
    · rw [n] at r; cases r
  have hm : ∀ b u, H b = some u → ¬ Mut (some u) → b ≠ x := fun b u q nm z => by subst z; rw [q] at mu; exact nm mu
  refine ⟨fun b u q n _ _ => k b u (hb b n) q, fun b u q n _ _ => ⟨u.slots, k b u (hb b n) q⟩, fun b u q n _ => by rw [upd_ne (hx b n)]; exact n, fun b u q _ => ?_,
    fun b xs q => by rw [upd_ne (hm b _ q fun z => z)]; exact q, fun b u xs q => by rw [upd_ne (hm b _ q fun z => z)]; exact q, fun b ps q => ⟨#[], by rw [upd_ne (hm b _ q fun z => z), q]; simp⟩⟩
  by_cases hbe : b = e
  · subst hbe; exact heo
  · exact ⟨u, k b u hbe q⟩
theorem Un.mono (u : Un fs ex H H1 h h1) (hs : ∀ b ∈ fs, b ∈ fs') (hx : ∀ b ∈ ex, b ∈ ex') : Un fs' ex' H H1 h h1 :=
  ⟨fun b ob q n hb he => u.keep b ob q n (fun z => hb (hs b z)) fun z => he (hx b z), fun _ _ q n _ he => u.any q n fun z => he (hx _ z), fun b ob q n he => u.free b ob q n fun z => he (hx b z), fun b ob q he => u.there b ob q fun z => he (hx b z), u.tups, u.frzs, u.tbls⟩
end
def trk (h : Heap) (H : Hp) : List Addr := (List.range h.objs.size).filter fun a => (H a).isSome
def hidT (h : Heap) (H : Hp) : Heap := PySem.W.hideAll h (trk h H)
theorem hidT_size (h : Heap) (H : Hp) : (hidT h H).objs.size = h.objs.size := PySem.W.hideAll_size _ _
theorem hidT_get {h : Heap} {H : Hp} {b : Addr} {o : Obj} (e : h.get? b = some o) (n : H b = none) : (hidT h H).get? b = some o :=
  PySem.W.hideAll_get _ e fun hm => by
    have q : (H b).isSome = true := (List.mem_filter.mp hm).2
    rw [n] at q; simp at q
theorem of_hidT {h : Heap} {H : Hp} {b : Addr} {o : Obj} (e : (hidT h H).get? b = some o) : h.get? b = some o ∧ H b = none := by
  have e' : h.get? b = some o := PySem.W.of_hideAll (trk h H) e
  refine ⟨e', ?_⟩
  cases q : H b with
  | none => rfl
  | some x =>
    have hm : b ∈ trk h H := List.mem_filter.mpr ⟨List.mem_range.mpr (Heap.lt_size e'), by simp [q]⟩
    have z : (hidT h H).get? b = none := PySem.W.hideAll_none (trk h H) hm
    rw [z] at e; cases e
def allNews (g h : Heap) (L : Addr) : List (Addr × Obj) := (List.range h.objs.size).filterMap fun a => if a = L ∨ (g.get? a).isSome = true then none else (h.get? a).map fun o => (a, o)
def rest (g h : Heap) (L d : Addr) : List (Addr × Obj) := (allNews g h L).filter fun p => decide (p.1 ≠ d)
end L2
namespace L2
open PySem PySem.Spec PyProof.Rows
structure Mod (K : PySem.W.Frag) (mg : Str → Option Value) (base : Heap) : Prop where
  kin : K.In base
  glob : base.Ns mainGlobals mg
  blt : ∃ mb, base.Ns builtinsNs mb ∧ ∀ x : Str, x ≠ "__name__" → mb x = bootBuiltins x
  nolimit : base.NoLimit
structure Cx where
  prog : Program
  w : World
  K : PySem.W.Frag
  mg : Str → Option Value
  base : Heap
  A : Around
  N : List Str
  s₀ : Shared
  H₀ : Hp
  env : Env
  outer : List Env
  stack : List Env
  ex : List Addr
  fn : Str → Bool
  calm : Bool
  pn : List (Addr × Obj)
  xe : Value → Shared → Prop
def frs (l : List Env) : List Addr := l.filterMap (·.frame)
abbrev Cx.fs (X : Cx) : List Addr := frs X.outer
def Vis (sc : Scope) (x : Str) : Prop := sc.names.lookup x = some .local ∨ sc.names.lookup x = some .cell ∨ sc.names.lookup x = some .free
def Loc (sc : Scope) (x : Str) : Prop := sc.names.lookup x = some .local ∨ sc.names.lookup x = some .cell
def Look (env : Env) (h : Heap) (m : Str → Option Value) (x : Str) (u : Value) : Prop :=
  (env.kindOf x = some .local ∧ m x = some u) ∨ ((env.kindOf x = some .cell ∨ env.kindOf x = some .free) ∧ ∃ c, env.cells.lookup x = some c ∧ h.IsCell c (some u))
structure Cx.Ok (X : Cx) : Prop where
  mod : Mod X.K X.mg X.base
  kind : X.env.scope.kind = .function
  glob : X.env.globals = mainGlobals
  blt : X.env.builtins = builtinsNs
  above : X.s₀.heap.objs.size ≤ X.env.locals
  inj : ∀ x y c, X.env.cells.lookup x = some c → X.env.cells.lookup y = some c → x = y
  has : ∀ x, (X.env.kindOf x = some .cell ∨ X.env.kindOf x = some .free) → ∃ c, X.env.cells.lookup x = some c
  cab : ∀ x c, X.fn x = true → X.env.cells.lookup x = some c → X.s₀.heap.objs.size ≤ c
  hd : X.calm = true → X.A.handled = none
  frames : X.A.frames = some X.stack
  stk : X.stack = X.outer ∨ (X.stack = X.env :: X.outer ∧ X.env.frame = some X.env.locals)
  exf : ∀ b ∈ X.ex, b ≠ X.env.locals ∧ ∀ x c, X.env.cells.lookup x = some c → c ≠ b
  bs : ∀ b o, X.base.get? b = some o → X.s₀.heap.get? b = some o ∧ X.H₀ b = none
  bsz : X.base.objs.size ≤ X.s₀.heap.objs.size
  noex : ∀ b o, X.base.get? b = some o → b ∉ X.ex
  exfs : ∀ b ∈ X.ex, b ∉ X.fs
  funs : X.s₀.heap.FunFrames X.base X.outer
  frf : ∀ b ∈ X.fs, X.H₀ b = none
structure Inv (X : Cx) (pins : List (Addr × Obj)) (σ : List (Option V)) (H : Hp) (s : Shared) : Prop where
  ok : X.Ok
  os : s.os = X.s₀.os
  bare : AllBare s.gens
  base : Un X.fs X.ex X.H₀ H X.s₀.heap s.heap
  loc : ∃ m, s.heap.Ns X.env.locals m ∧ ∀ (i : Nat) (x : Str) (v : V), X.N[i]? = some x → σ[i]? = some (some v) → Vis X.env.scope x → ∃ u, RelV v u ∧ Look X.env s.heap m x u
  cell : ∀ x c, X.env.cells.lookup x = some c → ∃ v, s.heap.IsCell c v
  free : H X.env.locals = none
  freeC : ∀ x c, X.env.cells.lookup x = some c → H c = none
  pin : ∀ p ∈ X.pn ++ pins, s.heap.get? p.1 = some p.2 ∧ H p.1 = none ∧ p.1 ≠ X.env.locals ∧ p.1 ∉ X.fs ∧ ∀ v, p.2.data ≠ .cell v
  hok : HOk X.prog X.w H s.heap
  len : σ.length = X.N.length
section
variable {X : Cx} {pins : List (Addr × Obj)} {σ : List (Option V)} {H H' : Hp} {s : Shared} {h' : Heap}
theorem Cx.Ok.nofr (ok : X.Ok) {b : Addr} {o : Obj} (e : X.base.get? b = some o) : b ∉ X.fs := fun hb => by
  have := (ok.funs.mem hb).1
  rw [e] at this; cases this
theorem Inv.bs (I : Inv X pins σ H s) : ∀ b o, X.base.get? b = some o → s.heap.get? b = some o ∧ H b = none := fun b o e =>
  ⟨I.base.keep b o (I.ok.bs b o e).1 (I.ok.bs b o e).2 (I.ok.nofr e) (I.ok.noex b o e), I.base.free b o (I.ok.bs b o e).1 (I.ok.bs b o e).2 (I.ok.noex b o e)⟩
theorem Inv.bk (I : Inv X pins σ H s) : ∀ b o, X.base.get? b = some o → s.heap.get? b = some o := fun b o e => (I.bs b o e).1
theorem Inv.mod (I : Inv X pins σ H s) : Mod X.K X.mg X.base := I.ok.mod
theorem Inv.kIn (I : Inv X pins σ H s) : X.K.In s.heap := I.ok.mod.kin.keeps I.bk
theorem Inv.nolimit (I : Inv X pins σ H s) : s.heap.NoLimit := I.ok.mod.nolimit.keeps I.bk
theorem Inv.lt (I : Inv X pins σ H s) : X.env.locals < s.heap.objs.size := let ⟨_, hn, _⟩ := I.loc; hn.lt
theorem Inv.sz (I : Inv X pins σ H s) : X.s₀.heap.objs.size ≤ s.heap.objs.size := Nat.le_trans I.ok.above (Nat.le_of_lt I.lt)
theorem Inv.nofs (I : Inv X pins σ H s) {a : Addr} (h : s.heap.objs.size ≤ a) : a ∉ X.fs := fun hb => by
  obtain ⟨_, o, ho, _⟩ := I.ok.funs.mem hb
  exact absurd (Nat.lt_of_lt_of_le (Heap.lt_size ho) (Nat.le_trans I.sz h)) (Nat.lt_irrefl _)
theorem Inv.cne (I : Inv X pins σ H s) : ∀ x c, X.env.cells.lookup x = some c → c ≠ X.env.locals := fun x c e z => by
  obtain ⟨v, o, ho, hd⟩ := I.cell x c e
  obtain ⟨m, ⟨o', es, ep, ho', hd', _⟩, _⟩ := I.loc
  rw [z, ho'] at ho; cases ho; rw [hd'] at hd; cases hd
theorem Inv.funs (I : Inv X pins σ H s) : s.heap.FunFrames X.base X.outer := by
  have all : ∀ (l : List Env), (∀ b ∈ frs l, b ∈ X.fs) → X.s₀.heap.FunFrames X.base l → s.heap.FunFrames X.base l := by
    intro l
    induction l with
    | nil => intro _ _; trivial
    | cons env r ih =>
      intro hs hl
      obtain ⟨hk, ⟨L, o, hf, hn, ho, hd⟩, hr⟩ := hl
      have hL : L ∈ X.fs := hs L (by unfold frs; rw [List.filterMap_cons, hf]; exact List.mem_cons_self)
      obtain ⟨sl, e⟩ := I.base.slot L o ho (I.ok.frf L hL) hL fun z => I.ok.exfs L z hL
      exact ⟨hk, ⟨L, _, hf, hn, e, hd⟩, ih (fun b hb => hs b (by unfold frs; rw [List.filterMap_cons, hf]; exact List.mem_cons_of_mem _ hb)) hr⟩
  exact all X.outer (fun _ hb => hb) I.ok.funs
theorem Inv.stack (I : Inv X pins σ H s) : s.heap.FunFrames X.base X.stack := by
  rcases I.ok.stk with e | ⟨e, hf⟩
  · rw [e]; exact I.funs
  · rw [e]
    obtain ⟨m, hn, _⟩ := I.loc
    refine .cons (by rw [I.ok.kind]; decide) hf hn ?_ I.funs
    exact Heap.get?_none_of_le (Nat.le_trans I.ok.bsz I.ok.above)
theorem Inv.stkSub (I : Inv X pins σ H s) : ∀ b ∈ frs X.stack, b ∈ X.env.locals :: X.fs := fun b hb => by
  rcases I.ok.stk with e | ⟨e, hf⟩
  · rw [e] at hb; exact List.mem_cons_of_mem _ hb
  · rw [e] at hb
    unfold frs at hb
    rw [List.filterMap_cons, hf] at hb
    exact hb
theorem Inv.stkFree (I : Inv X pins σ H s) : ∀ b ∈ frs X.stack, H b = none := fun b hb => by
  rcases List.mem_cons.mp (I.stkSub b hb) with e | hb
  · rw [e]; exact I.free
  · obtain ⟨_, o, ho, _⟩ := I.ok.funs.mem hb
    exact I.base.free b o ho (I.ok.frf b hb) fun z => I.ok.exfs b z hb
theorem Inv.step {g' : Array GenState} {t' : Nat} {d' : Drawn} {ch : List Addr} (I : Inv X pins σ H s)
    (hch : ∀ b ∈ ch, (b ∈ X.ex ∨ X.s₀.heap.objs.size ≤ b) ∧ b ≠ X.env.locals ∧ (∀ x c, X.env.cells.lookup x = some c → c ≠ b) ∧ ∀ p ∈ X.pn ++ pins, p.1 ≠ b)
    (keep : ∀ b o, b ≠ X.env.locals → b ∉ X.fs → b ∉ ch → s.heap.get? b = some o → H b = none → h'.get? b = some o)
    (slot : ∀ b o, b ≠ X.env.locals → b ∈ X.fs → b ∉ ch → s.heap.get? b = some o → H b = none → ∃ sl, h'.get? b = some { o with slots := sl }) (free : ∀ b o, b ∉ ch → s.heap.get? b = some o → H b = none → H' b = none)
    (there : ∀ b o, b ∉ ch → s.heap.get? b = some o → ∃ o', h'.get? b = some o')
    (tups : ∀ b xs, H b = some (.tup xs) → H' b = some (.tup xs)) (frzs : ∀ b o u, H b = some (.frz o u) → H' b = some (.frz o u)) (tbls : ∀ b ps, H b = some (.tbl ps) → ∃ more, H' b = some (.tbl (ps ++ more)))
    (ns : ∀ m, s.heap.Ns X.env.locals m → h'.Ns X.env.locals m) (hok : HOk X.prog X.w H' h') (hg : AllBare g') :
    Inv X pins σ H' { s with heap := h', gens := g', drawn := d', toks := t' } := by
  have neL : ∀ b o, X.s₀.heap.get? b = some o → b ≠ X.env.locals := fun b o e => Nat.ne_of_lt (Nat.lt_of_lt_of_le (Heap.lt_size e) I.ok.above)
  have neC : ∀ b o, X.s₀.heap.get? b = some o → b ∉ X.ex → b ∉ ch := fun b o e hx hb => by
    rcases (hch b hb).1 with z | z
    · exact hx z
    · exact absurd (Nat.lt_of_lt_of_le (Heap.lt_size e) z) (Nat.lt_irrefl _)
  have cellK : ∀ x c, X.env.cells.lookup x = some c → ∀ v, s.heap.IsCell c v → h'.IsCell c v := fun x c e v ⟨o, ho, hd⟩ => by
    have nch : c ∉ ch := fun z => (hch c z).2.2.1 x c e rfl
    by_cases hc : c ∈ X.fs
    · obtain ⟨sl, q⟩ := slot c o (I.cne x c e) hc nch ho (I.freeC x c e)
      exact ⟨_, q, hd⟩
    · exact ⟨o, keep c o (I.cne x c e) hc nch ho (I.freeC x c e), hd⟩
  refine ⟨I.ok, I.os, hg, ⟨fun b o e n hb hx => ?_, fun b o e n hb hx => ?_, fun b o e n hx => ?_, fun b o e hx => ?_, fun b xs e => tups b xs (I.base.tups b xs e), fun b o xs e => frzs b o xs (I.base.frzs b o xs e), fun b ps e => ?_⟩, ?_, fun x c e => ?_, ?_, fun x c e => ?_, fun p hp => ?_, hok, I.len⟩
  · exact keep b o (neL b o e) hb (neC b o e hx) (I.base.keep b o e n hb hx) (I.base.free b o e n hx)
  · obtain ⟨sl, e1⟩ := I.base.slot b o e n hb hx
    obtain ⟨sl', e2⟩ := slot b _ (neL b o e) hb (neC b o e hx) e1 (I.base.free b o e n hx)
    exact ⟨sl', e2⟩
  · obtain ⟨o', e1⟩ := I.base.there b o e hx
    exact free b o' (neC b o e hx) e1 (I.base.free b o e n hx)
  · obtain ⟨o', e1⟩ := I.base.there b o e hx
    exact there b o' (neC b o e hx) e1
  · obtain ⟨m1, e1⟩ := I.base.tbls b ps e
    obtain ⟨m2, e2⟩ := tbls b _ e1
    exact ⟨m1 ++ m2, by rw [e2, Array.append_assoc]⟩
  · obtain ⟨m, hn, hl⟩ := I.loc
    refine ⟨m, ns m hn, fun i x v e1 e2 e3 => ?_⟩
    obtain ⟨u, r, l⟩ := hl i x v e1 e2 e3
    refine ⟨u, r, ?_⟩
    rcases l with l | ⟨k, c, e, z⟩
    · exact .inl l
    · exact .inr ⟨k, c, e, cellK x c e _ z⟩
  · obtain ⟨v, z⟩ := I.cell x c e
    exact ⟨v, cellK x c e v z⟩
  · obtain ⟨m, ⟨o, _, _, ho, _⟩, _⟩ := I.loc
    exact free _ o (fun z => (hch _ z).2.1 rfl) ho I.free
  · obtain ⟨v, o, ho, hd⟩ := I.cell x c e
    exact free c o (fun z => (hch c z).2.2.1 x c e rfl) ho (I.freeC x c e)
  · obtain ⟨e, n, ne, nf, d⟩ := I.pin p hp
    have nch : p.1 ∉ ch := fun z => (hch p.1 z).2.2.2 p hp rfl
    exact ⟨keep p.1 p.2 ne nf nch e n, free p.1 p.2 nch e n, ne, nf, d⟩
theorem Inv.un {t' : Nat} (I : Inv X pins σ H s) (u : Un X.fs [] H H' s.heap h') (hok : HOk X.prog X.w H' h') : Inv X pins σ H' { s with heap := h', toks := t' } := by
  obtain ⟨m, ⟨o, es, ep, ho, r⟩, _⟩ := id I.loc
  obtain ⟨sl, hL⟩ := u.any ho I.free (by simp)
  exact I.step (g' := s.gens) (d' := s.drawn) (ch := []) (fun _ z => nomatch z) (fun b o _ hb _ e n => u.keep b o e n hb (by simp)) (fun b o _ hb _ e n => u.slot b o e n hb (by simp)) (fun b o _ e n => u.free b o e n (by simp)) (fun b o _ e => u.there b o e (by simp)) u.tups u.frzs u.tbls (fun m' hm => by
    obtain ⟨o', es', ep', ho', r'⟩ := hm
    rw [ho] at ho'; cases ho'
    exact ⟨_, es', ep', hL, r'⟩) hok I.bare
theorem Inv.call {g' : Array GenState} {t' : Nat} {d' : Drawn} {ch : List Addr} (I : Inv X pins σ H s) (u : Un (frs X.stack) ch H H' s.heap h') (hok : HOk X.prog X.w H' h') (hg : AllBare g')
    (hch : ∀ b ∈ ch, (b ∈ X.ex ∨ X.s₀.heap.objs.size ≤ b) ∧ b ≠ X.env.locals ∧ (∀ x c, X.env.cells.lookup x = some c → c ≠ b) ∧ ∀ p ∈ X.pn ++ pins, p.1 ≠ b) :
    Inv X pins σ H' { s with heap := h', gens := g', drawn := d', toks := t' } := by
  obtain ⟨m, ⟨o, es, ep, ho, r⟩, _⟩ := id I.loc
  obtain ⟨sl, hL⟩ := u.any ho I.free fun z => (hch _ z).2.1 rfl
  exact I.step (ch := ch) hch (fun b o hL hb hc e n => u.keep b o e n (fun z => (List.mem_cons.mp (I.stkSub b z)).elim hL hb) hc) (fun b o _ _ hc e n => u.any e n hc) (fun b o hc e n => u.free b o e n hc) (fun b o hc e => u.there b o e hc) u.tups u.frzs u.tbls (fun m' hm => by
    obtain ⟨o', es', ep', ho', r'⟩ := hm
    rw [ho] at ho'; cases ho'
    exact ⟨_, es', ep', hL, r'⟩) hok hg
theorem Inv.turned {t' : Nat} {it : Addr} (I : Inv X pins σ H s) (k : ∀ b o, b ≠ it → s.heap.get? b = some o → h'.get? b = some o) (hn : H it = none) (hL : it ≠ X.env.locals)
    (h1 : it ∈ X.ex ∨ X.s₀.heap.objs.size ≤ it) (h2 : ∀ x c, X.env.cells.lookup x = some c → c ≠ it) (h3 : ∀ p ∈ X.pn ++ pins, p.1 ≠ it) : Inv X pins σ H { s with heap := h', toks := t' } := by
  have nit : ∀ b u, H b = some u → b ≠ it := fun b u e z => by rw [z, hn] at e; cases e
  refine I.step (g' := s.gens) (d' := s.drawn) (ch := [it]) (fun b hb => ?_) (fun b o _ _ hc e _ => k b o (fun z => hc (by simp [z])) e) (fun b o _ _ hc e _ => ⟨o.slots, k b o (fun z => hc (by simp [z])) e⟩) (fun _ _ _ _ n => n)
    (fun b o hc e => ⟨o, k b o (fun z => hc (by simp [z])) e⟩) (fun _ _ e => e) (fun _ _ _ e => e) (fun b ps e => ⟨#[], by rw [e]; simp⟩) (fun m hm => ?_) (fun b u e => ?_) I.bare
  · have e : b = it := by simpa using hb
    subst e
    exact ⟨h1, hL, h2, h3⟩
  · obtain ⟨o, es, ep, ho, r⟩ := hm
    exact ⟨o, es, ep, k _ o (Ne.symm hL) ho, r⟩
  · refine (I.hok b u e).stay (fun c v hc q => k c v ?_ q) (fun _ q => q) fun _ _ q => q
    rcases hc with z | z
    · rw [z]; exact nit b u e
    · exact nit c _ z
theorem Inv.tok (I : Inv X pins σ H s) (t : Nat) : Inv X pins σ H { s with toks := t } := I.un (h' := s.heap) (t' := t) Un.refl I.hok
theorem Inv.kept {t' : Nat} (I : Inv X pins σ H s) (k : ∀ b u, s.heap.get? b = some u → h'.get? b = some u) : Inv X pins σ H { s with heap := h', toks := t' } := I.un (Un.kept k) (I.hok.kept k)
theorem Inv.laid {a : Addr} {o : HO} {t' : Nat} (I : Inv X pins σ H s) (k : ∀ b u, s.heap.get? b = some u → h'.get? b = some u) (hp : s.heap.objs.size ≤ a) (new : ObjOk X.prog X.w (upd H a o) h' a o) :
    Inv X pins σ (upd H a o) { s with heap := h', toks := t' } := I.un (Un.laid k hp (I.hok.fresh hp)) (I.hok.laid k hp new)
theorem Inv.write {x e : Addr} {o : HO} {t' : Nat} (I : Inv X pins σ H s) (mu : Mut (H x)) (he : e = x ∨ H e = some (.own x)) (k : ∀ b u, b ≠ e → s.heap.get? b = some u → h'.get? b = some u) (heo : ∃ u, h'.get? e = some u)
    (new : ObjOk X.prog X.w (upd H x o) h' x o) : Inv X pins σ (upd H x o) { s with heap := h', toks := t' } := I.un (Un.write mu he k heo) (I.hok.write mu he k heo new)
theorem Inv.weak {σ' : List (Option V)} (I : Inv X pins σ H s) (hl : σ'.length = σ.length) (w : ∀ (i : Nat) v, σ'[i]? = some (some v) → σ[i]? = some (some v)) : Inv X pins σ' H s :=
  ⟨I.ok, I.os, I.bare, I.base, let ⟨m, hn, hl'⟩ := I.loc; ⟨m, hn, fun i x v e1 e2 e3 => hl' i x v e1 (w i v e2) e3⟩, I.cell, I.free, I.freeC, I.pin, I.hok, hl.trans I.len⟩
theorem Inv.pins_of {pins' : List (Addr × Obj)} (I : Inv X pins σ H s) (h : ∀ p ∈ pins', s.heap.get? p.1 = some p.2 ∧ H p.1 = none ∧ p.1 ≠ X.env.locals ∧ p.1 ∉ X.fs ∧ ∀ v, p.2.data ≠ .cell v) : Inv X pins' σ H s :=
  ⟨I.ok, I.os, I.bare, I.base, I.loc, I.cell, I.free, I.freeC, fun p hp => (List.mem_append.mp hp).elim (fun z => I.pin p (List.mem_append_left _ z)) (h p), I.hok, I.len⟩
theorem nodup_ix {N : List Str} (hN : N.Nodup) {i j : Nat} {x : Str} (a : N[i]? = some x) (b : N[j]? = some x) : i = j := by
  obtain ⟨h1, e1⟩ := List.getElem?_eq_some_iff.mp a
  obtain ⟨h2, e2⟩ := List.getElem?_eq_some_iff.mp b
  exact (List.getElem_inj hN).mp (e1.trans e2.symm)
theorem store_ok2 {M : Model} {A : Around} {E : Value → Shared → Prop} {i : Nat} {x : Str} {v : V} {u : Value} {Q : Unit → Shared → Prop} (I : Inv X pins σ H s) (hN : X.N.Nodup) (hi : X.N[i]? = some x) (hx : Loc X.env.scope x) (r : RelV v u)
    (h : ∀ s', Inv X pins (σ.set i (some v)) H s' → (∃ a, Heap.SameBut a s.heap s'.heap ∧ (a = X.env.locals ∨ X.env.cells.lookup x = some a)) → Q () s') (hf : X.fn x = true ∨ X.env.scope.names.lookup x = some .local := by first | exact .inl rfl | exact .inr rfl | assumption) : wpAny M A (storeName X.env x u) Q E s := by
  obtain ⟨m, hn, hl⟩ := id I.loc
  have hcls : (X.env.scope.kind == .class || (X.env.scope.kind == .module && X.env.locals != X.env.globals)) = false := by rw [I.ok.kind]; rfl
  have hiσ : i < σ.length := by rw [I.len]; exact (List.getElem?_eq_some_iff.mp hi).1
  have cne := I.cne
  have tracked : ∀ {a : Addr} {h' : Heap}, (∃ o, s.heap.get? a = some o ∧ H a = none) → Heap.SameBut a s.heap h' → HOk X.prog X.w H h' := fun {a h'} ha hs b ob e => by
    obtain ⟨_, _, hfree⟩ := ha
    refine (I.hok b ob e).stay (fun c w' hc q => (hs.2 c ?_).trans q) (fun _ q => q) fun _ _ q => q
    rintro rfl
    rcases hc with rfl | hc
    · rw [hfree] at e; cases e
    · rw [hfree] at hc; cases hc
  rcases hx with hk | hk
  · refine wpAny_storeName_local hk hn (fun h' hn' hs => ?_) hcls
    obtain ⟨oL, _, _, hoL, _⟩ := id hn
    refine h _ ⟨I.ok, I.os, I.bare, ⟨fun b o e n hb hx => ?_, fun b o e n hb hx => ?_, I.base.free, fun b o e hx => ?_, I.base.tups, I.base.frzs, I.base.tbls⟩, ⟨_, hn', fun j y v' e1 e2 e3 => ?_⟩, fun y c e => ?_, I.free, I.freeC, fun p hp => ?_, tracked ⟨oL, hoL, I.free⟩ hs, by simpa using I.len⟩ ⟨_, hs, .inl rfl⟩
    · exact (hs.2 b (Nat.ne_of_lt (Nat.lt_of_lt_of_le (Heap.lt_size e) I.ok.above))).trans (I.base.keep b o e n hb hx)
    · obtain ⟨sl, e1⟩ := I.base.slot b o e n hb hx
      exact ⟨sl, (hs.2 b (Nat.ne_of_lt (Nat.lt_of_lt_of_le (Heap.lt_size e) I.ok.above))).trans e1⟩
    · obtain ⟨o', e1⟩ := I.base.there b o e hx
      exact ⟨o', (hs.2 b (Nat.ne_of_lt (Nat.lt_of_lt_of_le (Heap.lt_size e) I.ok.above))).trans e1⟩
    · by_cases hj : j = i
      · subst hj
        rw [hi] at e1; cases e1
        rw [List.getElem?_set_self hiσ] at e2
        cases e2
        exact ⟨u, r, .inl ⟨hk, by simp⟩⟩
      · rw [List.getElem?_set_ne (Ne.symm hj)] at e2
        obtain ⟨u', r', q⟩ := hl j y v' e1 e2 e3
        refine ⟨u', r', ?_⟩
        rcases q with ⟨k, e⟩ | ⟨k, c, e, z⟩
        · refine .inl ⟨k, ?_⟩
          have : y ≠ x := fun e => hj (nodup_ix hN e1 (e ▸ hi))
          simp [this, e]
        · exact .inr ⟨k, c, e, z.sameBut hs (cne y c e)⟩
    · obtain ⟨w', z⟩ := I.cell y c e
      exact ⟨w', z.sameBut hs (cne y c e)⟩
    · obtain ⟨e, n, ne, nf, d⟩ := I.pin p hp
      exact ⟨(hs.2 p.1 ne).trans e, n, ne, nf, d⟩
  · have hfn : X.fn x = true := by
      rcases hf with z | z
      · exact z
      · rw [z] at hk; cases hk
    obtain ⟨c, hc⟩ := I.ok.has x (.inl hk)
    obtain ⟨w', z⟩ := I.cell x c hc
    refine wpAny_storeName_cell I.ok.kind hk hc z (fun h' hc' hs => ?_)
    obtain ⟨oc, hoc, hocd⟩ := id z
    refine h { s with heap := h' } ⟨I.ok, I.os, I.bare, ⟨fun b o e n hb hx => ?_, fun b o e n hb hx => ?_, I.base.free, fun b o e hx => ?_, I.base.tups, I.base.frzs, I.base.tbls⟩, ⟨m, hn.sameBut hs (Ne.symm (cne x c hc)), fun j y v' e1 e2 e3 => ?_⟩, fun y c' e => ?_, I.free, I.freeC, fun p hp => ?_, tracked ⟨oc, hoc, I.freeC x c hc⟩ hs, by simpa using I.len⟩ ⟨c, hs, .inr hc⟩
    · exact (hs.2 b (Nat.ne_of_lt (Nat.lt_of_lt_of_le (Heap.lt_size e) (I.ok.cab x c hfn hc)))).trans (I.base.keep b o e n hb hx)
    · obtain ⟨sl, e1⟩ := I.base.slot b o e n hb hx
      exact ⟨sl, (hs.2 b (Nat.ne_of_lt (Nat.lt_of_lt_of_le (Heap.lt_size e) (I.ok.cab x c hfn hc)))).trans e1⟩
    · obtain ⟨o', e1⟩ := I.base.there b o e hx
      exact ⟨o', (hs.2 b (Nat.ne_of_lt (Nat.lt_of_lt_of_le (Heap.lt_size e) (I.ok.cab x c hfn hc)))).trans e1⟩
    · by_cases hj : j = i
      · subst hj
        rw [hi] at e1; cases e1
        rw [List.getElem?_set_self hiσ] at e2
        cases e2
        exact ⟨u, r, .inr ⟨.inl hk, c, hc, hc'⟩⟩
      · rw [List.getElem?_set_ne (Ne.symm hj)] at e2
        obtain ⟨u', r', q⟩ := hl j y v' e1 e2 e3
        refine ⟨u', r', ?_⟩
        rcases q with q | ⟨k, c', e, z'⟩
        · exact .inl q
        · refine .inr ⟨k, c', e, z'.sameBut hs ?_⟩
          rintro rfl
          exact hj (nodup_ix hN e1 (I.ok.inj _ _ _ e hc ▸ hi))
    · by_cases hcc : c' = c
      · subst hcc; exact ⟨_, hc'⟩
      · obtain ⟨w2, z2⟩ := I.cell y c' e
        exact ⟨w2, z2.sameBut hs hcc⟩
    · obtain ⟨e, n, ne, nf, d⟩ := I.pin p hp
      refine ⟨(hs.2 p.1 ?_).trans e, n, ne, nf, d⟩
      intro q
      rw [q, hoc] at e
      have q' : oc = p.2 := Option.some.inj e
      exact d w' (by rw [← q']; exact hocd)
theorem store_ok {M : Model} {A : Around} {E : Value → Shared → Prop} {i : Nat} {x : Str} {v : V} {u : Value} {Q : Unit → Shared → Prop} (I : Inv X pins σ H s) (hN : X.N.Nodup) (hi : X.N[i]? = some x) (hx : Loc X.env.scope x) (r : RelV v u)
    (h : ∀ s', Inv X pins (σ.set i (some v)) H s' → Q () s') (hf : X.fn x = true ∨ X.env.scope.names.lookup x = some .local := by first | exact .inl rfl | exact .inr rfl | assumption) : wpAny M A (storeName X.env x u) Q E s :=
  store_ok2 I hN hi hx r (fun s' I' _ => h s' I') hf
theorem Inv.call' {s' : Shared} {ch : List Addr} (I : Inv X pins σ H s) (ho : s'.os = s.os) (u : Un (frs X.stack) ch H H' s.heap s'.heap) (hok : HOk X.prog X.w H' s'.heap) (hg : AllBare s'.gens)
    (hch : ∀ b ∈ ch, (b ∈ X.ex ∨ X.s₀.heap.objs.size ≤ b) ∧ b ≠ X.env.locals ∧ (∀ x c, X.env.cells.lookup x = some c → c ≠ b) ∧ ∀ p ∈ X.pn ++ pins, p.1 ≠ b) : Inv X pins σ H' s' := by
  obtain ⟨h', g', d', t', o'⟩ := s'
  have e : o' = s.os := ho
  subst e
  exact I.call (g' := g') (t' := t') (d' := d') u hok hg hch
end
abbrev XK := Value → Option Addr → Hp → Prop
abbrev St := List (Option V)
abbrev VK := V → Hp → Prop
abbrev TE := St → Hp → VK → Prop
abbrev TT := St → Hp → (Bool → Hp → Prop) → Prop
abbrev TA := St → Hp → (List V → Hp → Prop) → Prop
structure Ends where
  nx : St → Hp → Prop
  rt : VK
  bk : St → Hp → Prop := fun _ _ => False
  ct : St → Hp → Prop := fun _ _ => False
abbrev TS := Ends → St → Hp → Prop
def EP (X : Cx) (pins : List (Addr × Obj)) (σ : St) (Q : VK) (u : Value) (s' : Shared) : Prop := ∃ v H', Inv X pins σ H' s' ∧ RelV v u ∧ Q v H'
def TP (X : Cx) (pins : List (Addr × Obj)) (σ : St) (Q : Bool → Hp → Prop) (b : Bool) (s' : Shared) : Prop := ∃ H', Inv X pins σ H' s' ∧ Q b H'
def AP (X : Cx) (pins : List (Addr × Obj)) (σ : St) (Q : List V → Hp → Prop) (us : List Value) (s' : Shared) : Prop := ∃ vs H', Inv X pins σ H' s' ∧ Vals vs us ∧ Q vs H'
def SP (X : Cx) (pins : List (Addr × Obj)) (D : Ends) (f : Flow) (s' : Shared) : Prop :=
  match f with
  | .next => ∃ σ' H', Inv X pins σ' H' s' ∧ D.nx σ' H'
  | .brk => ∃ σ' H', Inv X pins σ' H' s' ∧ D.bk σ' H'
  | .cont => ∃ σ' H', Inv X pins σ' H' s' ∧ D.ct σ' H'
  | .ret u => ∃ v σ' H', Inv X pins σ' H' s' ∧ RelV v u ∧ D.rt v H'
def PE (X : Cx) (e : Expr) (t : TE) : Prop :=
  ∀ (pins : List (Addr × Obj)) (s : Shared) (σ : St) (H : Hp) (Q : VK), Inv X pins σ H s → t σ H Q → wpAny (model X.prog X.w) X.A (eval e X.env) (EP X pins σ Q) X.xe s
def PT (X : Cx) (e : Expr) (t : TT) : Prop :=
  ∀ (pins : List (Addr × Obj)) (s : Shared) (σ : St) (H : Hp) (Q : Bool → Hp → Prop), Inv X pins σ H s → t σ H Q → wpAny (model X.prog X.w) X.A (isTrue e X.env (eval e X.env)) (TP X pins σ Q) X.xe s
def PW (X : Cx) (e : Expr) (t : TT) : Prop :=
  ∀ (whole : Sem Value) (pins : List (Addr × Obj)) (s : Shared) (σ : St) (H : Hp) (Q : Bool → Hp → Prop), Inv X pins σ H s → t σ H Q → wpAny (model X.prog X.w) X.A (isTrue e X.env whole) (TP X pins σ Q) X.xe s
theorem PW.pt {X : Cx} {e : Expr} {t : TT} (h : PW X e t) : PT X e t := h _
def PA (X : Cx) (es : List Expr) (t : TA) : Prop :=
  ∀ (pos : Pos) (pins : List (Addr × Obj)) (s : Shared) (σ : St) (H : Hp) (Q : List V → Hp → Prop), Inv X pins σ H s → t σ H Q → wpAny (model X.prog X.w) X.A (spliced (backTo pos (starEach es X.env))) (AP X pins σ Q) X.xe s
def PS (X : Cx) (st : Stmt) (t : TS) : Prop :=
  ∀ (pins : List (Addr × Obj)) (s : Shared) (σ : St) (H : Hp) (D : Ends), Inv X pins σ H s → t D σ H → wpAny (model X.prog X.w) X.A (exec st X.env) (SP X pins D) X.xe s
def PSs (X : Cx) (st : List Stmt) (t : TS) : Prop :=
  ∀ (pins : List (Addr × Obj)) (s : Shared) (σ : St) (H : Hp) (D : Ends), Inv X pins σ H s → t D σ H → wpAny (model X.prog X.w) X.A (execs st X.env) (SP X pins D) X.xe s
theorem thn {α : Type} {t : Sem α} {Q Q' : α → Shared → Prop} {M : Model} {A : Around} {E : Value → Shared → Prop} {s : Shared} (h : wpAny M A t Q E s) (hQ : ∀ a s, Q a s → Q' a s) : wpAny M A t Q' E s := wpAny_mono h hQ fun _ _ x => x
end L2
namespace L2
open PySem PySem.Spec PyProof.Rows
section
variable {X : Cx}
def tVar (i : Nat) : TE := fun σ H Q => ∃ v, σ[i]? = some (some v) ∧ Q v H
def tC (v : V) : TE := fun _ H Q => Q v H
theorem pe_var {i : Nat} {x : Str} {pos : Pos} (hN : X.N[i]? = some x) (hv : Vis X.env.scope x) (hd : (x == ("__debug__" : Str)) = false := by decide) (hcd : (x == ("__classdict__" : Str)) = false := by decide) : PE X (.Name x pos) (tVar i) := by
  intro pins s σ H Q I h
  obtain ⟨v, e, h⟩ := h
  obtain ⟨m, hn, hl⟩ := I.loc
  obtain ⟨u, r, l⟩ := hl i x v hN e hv
  have fin : EP X pins σ Q u s := ⟨v, H, I, r, h⟩
  rcases l with ⟨hk, hm⟩ | ⟨hk, c, hc, hcell⟩
  · exact wpAny_Name (wpAny_loadName_local I.ok.kind hk hn hm fin) hd
  · rcases hk with hk | hk
    · exact wpAny_Name (wpAny_loadName_cell I.ok.kind hk hc hcell fin) hd
    · exact wpAny_Name (wpAny_loadName_free I.ok.kind hk hc hcell fin hcd) hd
theorem pe_int {i j pos} : PE X (.Constant (.int i) j pos) (tC (.int i)) := fun _ _ _ H _ I h => wpAny_Constant_int ⟨.int i, H, I.tok _, ⟨_, rfl⟩, h⟩
theorem pe_bl {b j pos} : PE X (.Constant (.bool b) j pos) (tC (.bl b)) := fun _ _ _ H _ I h => Constant_bool ⟨.bl b, H, I, rfl, h⟩
theorem pe_non {j pos} : PE X (.Constant .none j pos) (tC .non) := fun _ _ _ H _ I h => Constant_none ⟨.non, H, I, rfl, h⟩
theorem pe_str {x j pos} : PE X (.Constant (.str x) j pos) (tC (.str x)) := fun _ _ _ H _ I h => Calls.Constant_str ⟨.str x, H, I.tok _, ⟨_, rfl⟩, h⟩
def Gl (X : Cx) (x : Str) : Prop := X.env.kindOf x = some .globalImplicit
theorem ld_glob {E : Value → Shared → Prop} {pins : List (Addr × Obj)} {s : Shared} {σ : St} {H : Hp} {x : Str} {u : Value} {pos : Pos} {Q : Value → Shared → Prop} (I : Inv X pins σ H s) (hg : Gl X x) (hm : X.mg x = some u) (h : Q u s)
    (hd : (x == ("__debug__" : Str)) = false := by decide) : wpAny (model X.prog X.w) X.A (eval (.Name x pos) X.env) Q E s :=
  Calls.Name_function_global I.ok.kind hg (Calls.loadGlobal_global (by rw [I.ok.glob]; exact I.mod.glob.keeps I.bk) hm h) hd
theorem ld_blt {E : Value → Shared → Prop} {pins : List (Addr × Obj)} {s : Shared} {σ : St} {H : Hp} {x : Str} {u : Value} {pos : Pos} {Q : Value → Shared → Prop} (I : Inv X pins σ H s) (hg : Gl X x) (hm : X.mg x = none) (hv : bootBuiltins x = some u) (h : Q u s)
    (hn : x ≠ "__name__" := by decide) (hd : (x == ("__debug__" : Str)) = false := by decide) : wpAny (model X.prog X.w) X.A (eval (.Name x pos) X.env) Q E s := by
  obtain ⟨mb, h1, h2⟩ := I.mod.blt
  exact Calls.Name_function_global I.ok.kind hg (Calls.loadGlobal_builtin (by rw [I.ok.glob]; exact I.mod.glob.keeps I.bk) hm (by rw [I.ok.blt]; exact h1.keeps I.bk) ((h2 x hn).trans hv) h) hd
theorem pe_bltn {x : Str} {v : V} {u : Value} {pos : Pos} (hg : Gl X x) (hm : X.mg x = none) (hv : bootBuiltins x = some u) (r : RelV v u) (hn : x ≠ "__name__" := by decide) (hd : (x == ("__debug__" : Str)) = false := by decide) : PE X (.Name x pos) (tC v) :=
  fun _ _ _ H _ I h => ld_blt I hg hm hv ⟨v, H, I, r, h⟩ hn hd
variable {a b : Expr} {ta tb : TE} {pos : Pos}
def tB (t : TE) : TT := fun σ H Q => t σ H fun x H1 => ∃ c, x = .bl c ∧ Q c H1
theorem pt_val {e : Expr} {t : TE} (h : PE X e t) (he : ∀ whole, isTrue e X.env whole = (do let v ← whole; standAt e.pos; holding [v] (truthy v)) := by intro _; rfl) : PT X e (tB t) := by
  intro pins s σ H Q I hw
  refine isTrue_plain (thn (h pins s σ H _ I hw) fun v s1 ⟨x, H1, I1, r1, q1⟩ => ?_) (he _)
  obtain ⟨d, rfl, q⟩ := q1
  cases r1
  exact wpAny_truthy_bool ⟨H1, I1, q⟩
variable {tA tB' : TT} {rest : List Expr}
def tAnd (t u : TT) : TT := fun σ H Q => t σ H fun c H1 => if c = true then u σ H1 Q else Q false H1
def tOr (t u : TT) : TT := fun σ H Q => t σ H fun c H1 => if c = true then Q true H1 else u σ H1 Q
def tNot (t : TT) : TT := fun σ H Q => t σ H fun c H1 => Q (!c) H1
theorem pw_and1 (ha : PT X a tA) : PW X (.BoolOp .And [a] pos) tA := by
  intro wh pins s σ H Q I h
  refine isTrue_and (thn (ha pins s σ H Q I h) fun c s1 e => ?_)
  cases c with
  | true => exact isTrue_and_nil e
  | false => exact e
theorem pw_or1 (ha : PT X a tA) : PW X (.BoolOp .Or [a] pos) tA := by
  intro wh pins s σ H Q I h
  refine isTrue_or (thn (ha pins s σ H Q I h) fun c s1 e => ?_)
  cases c with
  | false => exact isTrue_or_nil e
  | true => exact e
theorem pw_and (ha : PT X a tA) (hb : PW X (.BoolOp .And (b :: rest) pos) tB') : PW X (.BoolOp .And (a :: b :: rest) pos) (tAnd tA tB') := by
  intro wh pins s σ H Q I h
  refine isTrue_and (thn (ha pins s σ H _ I h) fun c s1 ⟨H1, I1, q1⟩ => ?_)
  cases c with
  | true => exact hb wh pins s1 σ H1 Q I1 q1
  | false => exact ⟨H1, I1, q1⟩
theorem pw_or (ha : PT X a tA) (hb : PW X (.BoolOp .Or (b :: rest) pos) tB') : PW X (.BoolOp .Or (a :: b :: rest) pos) (tOr tA tB') := by
  intro wh pins s σ H Q I h
  refine isTrue_or (thn (ha pins s σ H _ I h) fun c s1 ⟨H1, I1, q1⟩ => ?_)
  cases c with
  | true => exact ⟨H1, I1, q1⟩
  | false => exact hb wh pins s1 σ H1 Q I1 q1
theorem pt_not (ha : PT X a tA) : PT X (.UnaryOp .Not a pos) (tNot tA) := by
  intro pins s σ H Q I h
  exact isTrue_not (ha pins s σ H (fun c H1 => Q (!c) H1) I h)
def tAndV (ta tb : TE) : TE := fun σ H Q => ta σ H fun x H1 => ∃ c, x = .bl c ∧ if c = true then tb σ H1 Q else Q (.bl false) H1
def tOrV (ta tb : TE) : TE := fun σ H Q => ta σ H fun x H1 => ∃ c, x = .bl c ∧ if c = true then Q (.bl true) H1 else tb σ H1 Q
def tNotV (ta : TE) : TE := fun σ H Q => ta σ H fun x H1 => ∃ c, x = .bl c ∧ Q (.bl (!c)) H1
theorem pe_one {op} {t : TE} (h : PE X a t) : PE X (.BoolOp op [a] pos) t := fun pins s σ H Q I hw => BoolOp_one (h pins s σ H Q I hw)
theorem pe_and (ha : PE X a ta) (hb : PE X (.BoolOp .And (b :: rest) pos) tb) : PE X (.BoolOp .And (a :: b :: rest) pos) (tAndV ta tb) := by
  intro pins s σ H Q I h
  refine BoolOp_and (thn (ha pins s σ H _ I h) fun v s1 ⟨x, H1, I1, r1, q1⟩ => ?_)
  obtain ⟨c, rfl, q1⟩ := q1
  cases r1
  refine wpAny_truthy_bool ?_
  cases c with
  | true => exact hb pins s1 σ H1 Q I1 q1
  | false => exact ⟨.bl false, H1, I1, rfl, q1⟩
theorem pe_not (ha : PE X a ta) : PE X (.UnaryOp .Not a pos) (tNotV ta) := by
  intro pins s σ H Q I h
  refine UnaryOp_ (thn (ha pins s σ H _ I h) fun v s1 ⟨x, H1, I1, r1, q1⟩ => ?_)
  obtain ⟨c, rfl, q1⟩ := q1
  cases r1
  exact not_of (wpAny_truthy_bool ⟨.bl (!c), H1, I1, rfl, q1⟩)
end
end L2
namespace L2
open PySem PySem.Spec PyProof.Rows
def SqL (K : PySem.W.Frag) (H : Hp) (a : Addr) (xs : List V) : Prop :=
  Rd H a (.lst xs) ∨
    ∃ (o : Obj) (its : Array Value) (n : Nat), K.lookup a = some o ∧ o.cls = .type "list" ∧ o.dict = none ∧ o.data = .seq its n ∧ its.size ≤ sizeLine ∧ Vals xs its.toList
def SqT (K : PySem.W.Frag) (H : Hp) (a : Addr) (xs : List V) : Prop :=
  Rd H a (.tup xs) ∨
    ∃ (o : Obj) (its : Array Value) (n : Nat), K.lookup a = some o ∧ o.cls = .type "tuple" ∧ o.data = .seq its n ∧ its.size ≤ sizeLine ∧ Vals xs its.toList
def absV : Value → Option V
  | .none => some .non
  | .bool b => some (.bl b)
  | .int i _ => some (.int i)
  | .str x _ => some (.str x)
  | .bytes b _ => some (.byt b)
  | .float b _ => some (.flt b)
  | .ref a => some (.ref a)
  | .type n => some (.ty n)
  | _ => none
theorem RelV.abs {x : V} {u : Value} (r : RelV x u) : absV u = some x := by
  cases x with
  | non => cases r; rfl
  | bl _ => cases r; rfl
  | int _ => obtain ⟨t, rfl⟩ := r; rfl
  | str _ => obtain ⟨t, rfl⟩ := r; rfl
  | byt _ => obtain ⟨t, rfl⟩ := r; rfl
  | flt _ => obtain ⟨t, rfl⟩ := r; rfl
  | ref _ => cases r; rfl
  | ty _ => cases r; rfl
theorem RelV.inj {x y : V} {u : Value} (r : RelV x u) (q : RelV y u) : x = y := Option.some.inj (r.abs.symm.trans q.abs)
theorem Vals.inj : ∀ {xs ys : List V} {us : List Value}, Vals xs us → Vals ys us → xs = ys
  | _, _, _, .nil, .nil => rfl
  | _, _, _, .cons r t, .cons r' t' => by rw [r.inj r', Vals.inj t t']
section
variable {X : Cx} {pins : List (Addr × Obj)} {σ : St} {H : Hp} {s : Shared} {a : Addr} {xs ys : List V}
theorem SqL.of {K : PySem.W.Frag} (h : H a = some (.lst xs)) : SqL K H a xs := .inl (.inl h)
theorem SqT.of {K : PySem.W.Frag} (h : H a = some (.tup xs)) : SqT K H a xs := .inl (.inl h)
theorem Inv.list (I : Inv X pins σ H s) (h : SqL X.K H a xs) : ∃ its : List Value, Vals xs its ∧ PlainL s.heap a its.toArray ∧ xs.length ≤ sizeLine := by
  rcases h with h | ⟨o, its, n, hk, hc, hd, hs, hz, r⟩
  · obtain ⟨z, its, n, r, e⟩ := h.ok I.hok
    exact ⟨its, r, ⟨_, n, e, rfl, rfl, rfl⟩, z⟩
  · refine ⟨its.toList, r, ⟨o, n, I.kIn a o hk, hc, hd, by simpa using hs⟩, ?_⟩
    have e := r.length
    simp only [Array.length_toList] at e
    omega
theorem Inv.tuple (I : Inv X pins σ H s) (h : SqT X.K H a xs) : ∃ its : List Value, Vals xs its ∧ IsTup s.heap a its.toArray ∧ xs.length ≤ sizeLine := by
  rcases h with h | ⟨o, its, n, hk, hc, hs, hz, r⟩
  · obtain ⟨z, its, r, p⟩ := h.ok I.hok
    exact ⟨its, r, p, z⟩
  · refine ⟨its.toList, r, ⟨o, I.kIn a o hk, hc, n, by simpa using hs⟩, ?_⟩
    have e := r.length
    simp only [Array.length_toList] at e
    omega
theorem Inv.list_inj (I : Inv X pins σ H s) (h : SqL X.K H a xs) (h' : SqL X.K H a ys) : xs = ys := by
  obtain ⟨its, r, ⟨o, n, e, _, _, d⟩, _⟩ := I.list h
  obtain ⟨its', r', ⟨o', n', e', _, _, d'⟩, _⟩ := I.list h'
  rw [e] at e'; cases e'
  rw [d] at d'
  injection d' with d1 _
  have : its = its' := by simpa using congrArg Array.toList d1
  subst this
  exact r.inj r'
end
abbrev Cx.wish (X : Cx) (E : Value → Shared → Prop) : Cx := { X with xe := E }
abbrev Cx.nox (X : Cx) : Cx := X.wish fun _ _ => False
theorem Cx.Ok.wish {X : Cx} (ok : X.Ok) (E : Value → Shared → Prop) : (X.wish E).Ok :=
  ⟨ok.mod, ok.kind, ok.glob, ok.blt, ok.above, ok.inj, ok.has, ok.cab, ok.hd, ok.frames, ok.stk, ok.exf, ok.bs, ok.bsz, ok.noex, ok.exfs, ok.funs, ok.frf⟩
theorem Cx.Ok.unwish {X : Cx} {E : Value → Shared → Prop} (ok : (X.wish E).Ok) : X.Ok :=
  ⟨ok.mod, ok.kind, ok.glob, ok.blt, ok.above, ok.inj, ok.has, ok.cab, ok.hd, ok.frames, ok.stk, ok.exf, ok.bs, ok.bsz, ok.noex, ok.exfs, ok.funs, ok.frf⟩
section
variable {X : Cx} {pins : List (Addr × Obj)} {σ : St} {H : Hp} {s : Shared} {E : Value → Shared → Prop}
theorem Inv.wish (I : Inv X pins σ H s) (E : Value → Shared → Prop) : Inv (X.wish E) pins σ H s := ⟨I.ok.wish E, I.os, I.bare, I.base, I.loc, I.cell, I.free, I.freeC, I.pin, I.hok, I.len⟩
theorem Inv.unwish (I : Inv (X.wish E) pins σ H s) : Inv X pins σ H s := ⟨I.ok.unwish, I.os, I.bare, I.base, I.loc, I.cell, I.free, I.freeC, I.pin, I.hok, I.len⟩
theorem SP.unwish {D : Ends} {f : Flow} {s' : Shared} (h : SP (X.wish E) pins D f s') : SP X pins D f s' := by
  cases f with
  | next => obtain ⟨σ', H', I, q⟩ := h; exact ⟨σ', H', I.unwish, q⟩
  | brk => obtain ⟨σ', H', I, q⟩ := h; exact ⟨σ', H', I.unwish, q⟩
  | cont => obtain ⟨σ', H', I, q⟩ := h; exact ⟨σ', H', I.unwish, q⟩
  | ret u => obtain ⟨v, σ', H', I, r, q⟩ := h; exact ⟨v, σ', H', I.unwish, r, q⟩
theorem PE.nox {e : Expr} {t : TE} (h : PE X.nox e t) : PE X e t := fun pins s σ H Q I hw =>
  wpAny_mono (h pins s σ H Q (I.wish _) hw) (fun _ _ ⟨v, H', I', r, q⟩ => ⟨v, H', I'.unwish, r, q⟩) fun _ _ z => False.elim z
theorem PT.nox {e : Expr} {t : TT} (h : PT X.nox e t) : PT X e t := fun pins s σ H Q I hw =>
  wpAny_mono (h pins s σ H Q (I.wish _) hw) (fun _ _ ⟨H', I', q⟩ => ⟨H', I'.unwish, q⟩) fun _ _ z => False.elim z
theorem PSs.nox {st : List Stmt} {t : TS} (h : PSs X.nox st t) : PSs X st t := fun pins s σ H D I hw =>
  wpAny_mono (h pins s σ H D (I.wish _) hw) (fun _ _ q => q.unwish) fun _ _ z => False.elim z
end
section
variable {X : Cx} {st : Stmt} {rest : List Stmt} {t u : TS} {e : Expr} {te : TE} {pos : Pos}
def tNext : TS := fun D σ H => D.nx σ H
def tSeq (t u : TS) : TS := fun D σ H => t { D with nx := u D } σ H
theorem pss_nil : PSs X [] tNext := fun _ _ σ H _ I h => wpAny_execs_nil ⟨σ, H, I, h⟩
theorem pss_cons (h1 : PS X st t) (h2 : PSs X rest u) : PSs X (st :: rest) (tSeq t u) := by
  intro pins s σ H D I h
  refine wpAny_execs_cons (thn (h1 pins s σ H { D with nx := u D } I h) fun f s1 q => ?_)
  cases f with
  | next =>
    obtain ⟨σ', H', I', q⟩ := q
    exact h2 pins s1 σ' H' D I' q
  | ret v => exact q
  | brk => exact q
  | cont => exact q
theorem pss_one (h1 : PS X st t) : PSs X [st] t := by
  intro pins s σ H D I h
  refine wpAny_execs_cons (thn (h1 pins s σ H D I h) fun f s1 q => ?_)
  cases f with
  | next => exact wpAny_execs_nil q
  | ret v => exact q
  | brk => exact q
  | cont => exact q
theorem Inv.quiet {pins : List (Addr × Obj)} {σ : St} {H : Hp} {s : Shared} (I : Inv X pins σ H s) : interactive X.env = false := by simp [interactive, I.ok.kind]
def tDrop (te : TE) : TS := fun D σ H => te σ H fun _ H1 => D.nx σ H1
theorem ps_expr (he : PE X e te) (hs : swapsWith e none pos.line X.env = pure false := by rfl) : PS X (.Expr e pos) (tDrop te) := by
  intro pins s σ H D I h
  exact wpAny_Expr_any (thn (he pins s σ H _ I h) fun v s1 ⟨x, H1, I1, r1, q1⟩ => ⟨σ, H1, I1, q1⟩) I.quiet hs
def tRet (te : TE) : TS := fun D σ H => te σ H D.rt
theorem ps_ret (he : PE X e te) : PS X (.Return (some e) pos) (tRet te) := by
  intro pins s σ H D I h
  exact wpAny_Return_some (thn (he pins s σ H _ I h) fun v s1 ⟨x, H1, I1, r1, q1⟩ => ⟨x, σ, H1, I1, r1, q1⟩)
def tRetN : TS := fun D _ H => D.rt .non H
def tIfS (c : TT) (t u : TS) : TS := fun D σ H => c σ H fun b H1 => if b = true then t D σ H1 else u D σ H1
theorem ps_if {c : Expr} {a b : List Stmt} {tc : TT} (hc : PT X c tc) (ha : PSs X a t) (hb : PSs X b u) : PS X (.If c a b pos) (tIfS tc t u) := by
  intro pins s σ H D I h
  refine wpAny_If (thn (hc pins s σ H _ I h) fun d s1 ⟨H1, I1, q1⟩ => ?_)
  cases d with
  | true => exact ha pins s1 σ H1 D I1 q1
  | false => exact hb pins s1 σ H1 D I1 q1
end
abbrev TG := V → St → Hp → (St → Hp → Prop) → Prop
abbrev TGs := List V → St → Hp → (St → Hp → Prop) → Prop
def PG (X : Cx) (target : Expr) (t : TG) : Prop :=
  ∀ (pins : List (Addr × Obj)) (s : Shared) (σ : St) (H : Hp) (v : V) (u : Value) (Q : St → Hp → Prop), Inv X pins σ H s → RelV v u → t v σ H Q →
    wpAny (model X.prog X.w) X.A (assign target X.env u) (fun _ s' => ∃ σ' H', Inv X pins σ' H' s' ∧ Q σ' H') X.xe s
def PGs (X : Cx) (ts : List Expr) (t : TGs) : Prop :=
  ∀ (pins : List (Addr × Obj)) (s : Shared) (σ : St) (H : Hp) (vs : List V) (us : List Value) (Q : St → Hp → Prop), Inv X pins σ H s → Vals vs us → t vs σ H Q →
    wpAny (model X.prog X.w) X.A (assignInOrder ((assignEach ts X.env).map (·.2)) us) (fun _ s' => ∃ σ' H', Inv X pins σ' H' s' ∧ Q σ' H') X.xe s
abbrev TSet := V → V → V → Hp → (Hp → Prop) → Prop
def PSet (X : Cx) (t : TSet) : Prop :=
  ∀ (pins : List (Addr × Obj)) (s : Shared) (σ : St) (H : Hp) (o i v : V) (ov iv u : Value) (Q : Hp → Prop), Inv X pins σ H s → RelV o ov → RelV i iv → RelV v u → t o i v H Q →
    wpAny (model X.prog X.w) X.A (setItem ov iv u) (fun _ s' => ∃ H', Inv X pins σ H' s' ∧ Q H') X.xe s
section
variable {X : Cx} {pos : Pos}
def gName (i : Nat) : TG := fun v σ H Q => Q (σ.set i (some v)) H
theorem pg_name {i : Nat} {x : Str} (hN : X.N.Nodup) (hi : X.N[i]? = some x) (hx : Loc X.env.scope x) (hf : X.fn x = true ∨ X.env.scope.names.lookup x = some .local := by first | exact .inl rfl | exact .inr rfl | assumption) : PG X (.Name x pos) (gName i) := by
  intro pins s σ H v u Q I r h
  exact wpAny_assign_Name (store_ok I hN hi hx r (fun s' I' => ⟨_, H, I', h⟩) hf)
def gNil : TGs := fun vs σ H Q => vs = [] ∧ Q σ H
def gCons (t : TG) (u : TGs) : TGs := fun vs σ H Q => ∃ v r, vs = v :: r ∧ t v σ H fun σ' H' => u r σ' H' Q
theorem pgs_nil : PGs X [] gNil := by
  intro pins s σ H vs us Q I r h
  obtain ⟨e, h⟩ := h
  subst e
  cases r
  exact assignInOrder_nil ⟨σ, H, I, h⟩
theorem pgs_cons {e : Expr} {es : List Expr} {t : TG} {u : TGs} (h1 : PG X e t) (h2 : PGs X es u)
    (hs : (assignEach (e :: es) X.env).map (·.2) = assign e X.env :: (assignEach es X.env).map (·.2) := by rfl) : PGs X (e :: es) (gCons t u) := by
  intro pins s σ H vs us Q I r h
  obtain ⟨v, vr, e1, h⟩ := h
  subst e1
  cases r with
  | cons r rr =>
    rw [hs]
    refine assignInOrder_cons (thn (h1 pins s σ H _ _ _ I r h) fun _ s1 ⟨σ1, H1, I1, q1⟩ => ?_)
    exact h2 pins s1 σ1 H1 _ _ Q I1 rr q1
def gTup (K : PySem.W.Frag) (n : Nat) (t : TGs) : TG := fun v σ H Q => ∃ a xs, v = .ref a ∧ SqT K H a xs ∧ xs.length = n ∧ t xs σ H Q
theorem pg_tup {es : List Expr} {k : Nat} {t : TGs} {n : Nat} (hc : X.calm = true) (h : PGs X es t)
    (hn : (assignEach es X.env).length = n := by rfl) (hst : (assignEach es X.env).findIdx? (·.1) = none := by rfl) : PG X (.Tuple es k pos) (gTup X.K n t) := by
  intro pins s σ H v u Q I r hw
  obtain ⟨a, xs, e1, hq, hl, hw⟩ := hw
  subst e1
  cases r
  obtain ⟨its, rv, ht, hz⟩ := I.tuple hq
  refine assign_Tuple_tuple (I.ok.hd hc) ht (by simp [hn, ← hl, rv.length]) hst fun h' hx => ?_
  have I1 : Inv X pins σ H { s with heap := h' } := I.kept (t' := s.toks) fun b o e => hx b o (Nat.ne_of_lt (Heap.lt_size e)) e
  exact h pins _ σ H xs _ Q I1 (by simpa using rv) hw
def gSub (to ti : TE) (t : TSet) : TG := fun v σ H Q => to σ H fun o H1 => ti σ H1 fun i H2 => t o i v H2 fun H3 => Q σ H3
theorem pg_sub {o i : Expr} {to ti : TE} {t : TSet} (ho : PE X o to) (hi : PE X i ti) (hs : PSet X t)
    (ha : ∀ v, assign (.Subscript o i pos) X.env v = (do
      let ov ← holding [v] (eval o X.env)
      let iv ← holding [v, ov] (eval i X.env)
      standAt pos
      holding [v, ov, iv] (setItem ov iv v)
      release [v, ov, iv] []) := by intro _; rfl) : PG X (.Subscript o i pos) (gSub to ti t) := by
  intro pins s σ H v u Q I r h
  rw [ha]
  refine wpAny_bind (wpAny_holding (thn (ho pins s σ H _ I h) fun ov s1 ⟨x, H1, I1, r1, q1⟩ => ?_))
  refine wpAny_bind (wpAny_holding (thn (hi pins s1 σ H1 _ I1 q1) fun iv s2 ⟨y, H2, I2, r2, q2⟩ => ?_))
  refine wpAny_bind (wpAny_standAt (wpAny_bind (wpAny_holding (thn (hs pins s2 σ H2 x y v ov iv u _ I2 r1 r2 r q2) fun _ s3 ⟨H3, I3, q3⟩ => ?_))))
  exact wpAny_release ⟨σ, H3, I3, q3⟩
def tAsg (te : TE) (g : TG) : TS := fun D σ H => te σ H fun x H1 => g x σ H1 D.nx
theorem ps_asg {tg e : Expr} {te : TE} {g : TG} (he : PE X e te) (hg : PG X tg g) (hs : swapsWithSole [tg] e pos.line X.env = pure false := by rfl) (hw : swappedStores [tg] e X.env = pure none := by rfl)
    (h1 : (assignEach [tg] X.env).map (·.2) = [assign tg X.env] := by rfl) : PS X (.Assign [tg] e pos) (tAsg te g) := by
  intro pins s σ H D I h
  refine wpAny_Assign_stores (thn (he pins s σ H _ I h) fun v s1 ⟨x, H1, I1, r1, q1⟩ => ?_) hs hw
  rw [h1]
  exact thn (hg pins s1 σ H1 x v _ I1 r1 q1) fun _ s2 q => q
theorem ps_set {i : Nat} {x : Str} {e : Expr} {te : TE} {pos' : Pos} (hN : X.N.Nodup) (hi : X.N[i]? = some x) (hx : Loc X.env.scope x) (he : PE X e te) (hs : swapsWith e (some (.Name x pos')) pos.line X.env = pure false := by rfl) (hf : X.fn x = true ∨ X.env.scope.names.lookup x = some .local := by first | exact .inl rfl | exact .inr rfl | assumption) :
    PS X (.Assign [.Name x pos'] e pos) (tAsg te (gName i)) := by
  intro pins s σ H D I h
  refine wpAny_Assign_Name (thn (he pins s σ H _ I h) fun v s1 ⟨y, H1, I1, r1, q1⟩ => ?_) hs
  exact store_ok I1 hN hi hx r1 (fun s2 I2 => ⟨_, H1, I2, q1⟩) hf
def tPar (i j : Nat) (ta : TA) : TS := fun D σ H => ta σ H fun vs H1 => ∃ v w, vs = [v, w] ∧ D.nx ((σ.set i (some v)).set j (some w)) H1
end
section
variable {X : Cx} {pos : Pos}
def tWhile (c : TT) (tb : TS) : TS := fun D σ H => ∃ W : Nat → St → Hp → Prop, (∃ m, W m σ H) ∧ ∀ m σ H, W m σ H →
  c σ H fun b H1 => if b = true then ∃ N : St → Hp → Prop, (∀ σ' H', N σ' H' → ∃ m', m' < m ∧ W m' σ' H') ∧ tb { D with nx := N, ct := N, bk := D.nx } σ H1 else D.nx σ H1
end
structure It where
  go : Nat → Hp → Prop
  yld : Nat → Hp → V → Hp → Prop
  stop : Nat → Hp → Prop
def FpOk (X : Cx) (pins : List (Addr × Obj)) (H : Hp) (b : Addr) : Prop :=
  H b = none ∧ b ≠ X.env.locals ∧ b ∉ X.fs ∧ (b ∈ X.ex ∨ X.s₀.heap.objs.size ≤ b) ∧ (∀ x c, X.env.cells.lookup x = some c → c ≠ b) ∧ ∀ p ∈ X.pn ++ pins, p.1 ≠ b
theorem Inv.fpOk {X : Cx} {pins : List (Addr × Obj)} {σ : St} {H H' : Hp} {s : Shared} {b : Addr} (I : Inv X pins σ H s) (hb : s.heap.objs.size ≤ b) (hn : H' b = none) : FpOk X pins H' b := by
  refine ⟨hn, Nat.ne_of_gt (Nat.lt_of_lt_of_le I.lt hb), I.nofs hb, .inr (Nat.le_trans I.sz hb), fun x c e z => ?_, fun p hp z => ?_⟩
  · obtain ⟨v, q⟩ := I.cell x c e
    exact absurd (Nat.lt_of_lt_of_le q.lt (by rw [z]; exact hb)) (Nat.lt_irrefl _)
  · exact absurd (Nat.lt_of_lt_of_le (Heap.lt_size (I.pin p hp).1) (by rw [z]; exact hb)) (Nat.lt_irrefl _)
structure Turn (P : Program) (w : World) (K : PySem.W.Frag) (tg : Expr) (J : It) (fp : List Addr) (it : Addr) (tn : Nat → Heap → Prop) : Prop where
  mem : it ∈ fp
  obj : ∀ i h, tn i h → ∀ b ∈ fp, ∃ o, h.get? b = some o ∧ ∀ v, o.data ≠ .cell v
  keep : ∀ i h h', tn i h → (∀ b ∈ fp, ∀ o, h.get? b = some o → h'.get? b = some o) → tn i h'
  item : ∀ (X : Cx), X.prog = P → X.w = w → X.K = K → X.calm = true → ∀ (i : Nat) (pins : List (Addr × Obj)) (s : Shared) (σ : St) (H : Hp) (E : Value → Shared → Prop), Inv X pins σ H s → (∀ b ∈ fp, FpOk X pins H b) → tn i s.heap → J.go i H →
    wpAny (model P w) X.A (pyNext (.ref it)) (fun r s1 => ∃ u, r = some u ∧
      wpAny (model P w) X.A (letOwnedTupleGo tg (.ref it) u) (fun _ s2 => ∃ x H', Inv X pins σ H' s2 ∧ RelV x u ∧ J.yld i H x H' ∧ tn (i + 1) s2.heap ∧ ∀ b ∈ fp, H' b = none) E s1) E s
  done : ∀ (X : Cx), X.prog = P → X.w = w → X.K = K → X.calm = true → ∀ (i : Nat) (pins : List (Addr × Obj)) (s : Shared) (σ : St) (H : Hp) (E : Value → Shared → Prop), Inv X pins σ H s → (∀ b ∈ fp, FpOk X pins H b) → tn i s.heap → J.stop i H →
    wpAny (model P w) X.A (pyNext (.ref it)) (fun r s1 => r = none ∧ Inv X pins σ H s1) E s
  self : ∀ (A : Around) (i : Nat) (s : Shared) (Q : Value → Shared → Prop) (E : Value → Shared → Prop), tn i s.heap → Q (.ref it) s → wpAny (model P w) A (pyIter (.ref it)) Q E s
abbrev TI := St → Hp → (It → Hp → Prop) → Prop
def PIE (X : Cx) (pins : List (Addr × Obj)) (σ : St) (tg : Expr) (R : It → Hp → Prop) (itv : Value) (s2 : Shared) : Prop :=
  ∃ (it : Addr) (fp : List Addr) (tn : Nat → Heap → Prop) (J : It) (H' : Hp), itv = .ref it ∧ Inv X pins σ H' s2 ∧ Turn X.prog X.w X.K tg J fp it tn ∧ tn 0 s2.heap ∧ (∀ b ∈ fp, FpOk X pins H' b) ∧ R J H'
def PI (X : Cx) (tg iter : Expr) (wi : TI) : Prop :=
  ∀ (pins : List (Addr × Obj)) (s : Shared) (σ : St) (H : Hp) (R : It → Hp → Prop), Inv X pins σ H s → wi σ H R →
    wpAny (model X.prog X.w) X.A (eval iter X.env) (fun v s1 => wpAny (model X.prog X.w) X.A (pyIter v) (PIE X pins σ tg R) X.xe s1) X.xe s
theorem go_of {M : Model} {A : Around} {E : Value → Shared → Prop} {s : Shared} {tg : Expr} {it : Addr} {u : Value} {o : Obj} {n : String} {vs : Array Value} {Q : Unit → Shared → Prop} (ho : s.heap.get? it = some o) (hc : o.cls = .type n) (hd : o.data = .fields vs)
    (hn : ["enumerate", "zip", "dict_itemiterator", "dict_reverseitemiterator", "odict_iterator", "itertools.zip_longest", "itertools.pairwise"].contains n = false) (hQ : Q () s) : wpAny M A (letOwnedTupleGo tg (.ref it) u) Q E s := by
  unfold letOwnedTupleGo
  cases tg <;> first
    | exact wpAny_pure hQ
    | (cases u <;> first
        | exact wpAny_pure hQ
        | (refine wpAny_bind (wpAny_load ho ?_)
           rw [hc, hd]
           show wpAny M A (if (["enumerate", "zip", "dict_itemiterator", "dict_reverseitemiterator", "odict_iterator", "itertools.zip_longest", "itertools.pairwise"].contains n && vs[0]? == some (rawInt _)) = true then _ else _) Q E s
           rw [if_neg (by intro h; rw [hn, Bool.false_and] at h; cases h)]
           exact wpAny_pure hQ))
def Itl (K : PySem.W.Frag) (a : Addr) : It :=
  ⟨fun i H => ∃ xs x, SqL K H a xs ∧ xs[i]? = some x, fun i H x H' => H' = H ∧ ∀ xs, SqL K H a xs → xs[i]? = some x, fun i H => ∃ xs, SqL K H a xs ∧ xs.length ≤ i⟩
def Itt (K : PySem.W.Frag) (a : Addr) : It :=
  ⟨fun i H => ∃ xs x, SqT K H a xs ∧ xs[i]? = some x, fun i H x H' => H' = H ∧ ∀ xs, SqT K H a xs → xs[i]? = some x, fun i H => ∃ xs, SqT K H a xs ∧ xs.length ≤ i⟩
def Itr (lo : Int) (n : Nat) : It := ⟨fun i _ => i < n, fun i H x H' => H' = H ∧ x = .int (lo + i), fun i _ => n ≤ i⟩
theorem turn_list {P : Program} {w : World} {K : PySem.W.Frag} {tg : Expr} (a it : Addr) : Turn P w K tg (Itl K a) [it] it (fun i h => h.IsListIter it a i) where
  mem := by simp
  obj := fun i h st b hb => by
    have e : b = it := by simpa using hb
    subst e
    obtain ⟨o, e, c, d⟩ := st
    exact ⟨o, e, fun v z => by rw [d] at z; cases z⟩
  keep := fun i h h' st k => st.at fun o e => k it (by simp) o e
  item := by
    intro X hP hw hK hc i pins s σ H E I hf st hg
    subst hP hw hK
    obtain ⟨xs, x, hq, hx⟩ := hg
    obtain ⟨its, rv, p, hz⟩ := I.list hq
    obtain ⟨u, hu, ru⟩ := rv.get hx
    obtain ⟨f0, f1, f2, f3, f4, f5⟩ := hf it (by simp)
    refine wpAny_pyNext_list_item st p.isList (x := u) (by simpa using hu) fun h' st' sb => ?_
    have I1 : Inv X pins σ H { s with heap := h' } := I.turned (t' := s.toks) (fun b o hb e => (sb.2 b hb).trans e) f0 f1 f3 f4 f5
    obtain ⟨o, e, c, d⟩ := id st'
    exact ⟨u, rfl, go_of (s := { s with heap := h' }) e c d (by decide) ⟨x, H, I1, ru, ⟨rfl, fun ys hy => by rw [I.list_inj hy hq]; exact hx⟩, st', fun b hb => (hf b hb).1⟩⟩
  done := by
    intro X hP hw hK hc i pins s σ H E I hf st hg
    subst hP hw hK
    obtain ⟨xs, hq, hx⟩ := hg
    obtain ⟨its, rv, p, hz⟩ := I.list hq
    obtain ⟨f0, f1, f2, f3, f4, f5⟩ := hf it (by simp)
    have hl := rv.length
    exact wpAny_pyNext_list_end (I.ok.hd hc) st p.isList (by simp; omega) fun h' eb => ⟨rfl, I.turned (t' := s.toks) (fun b o hb e => eb b o hb e) f0 f1 f3 f4 f5⟩
  self := fun _ _ _ _ _ st h => wpAny_pyIter_listiter st h
theorem turn_range {P : Program} {w : World} {K : PySem.W.Frag} {tg : Expr} (it : Addr) (lo : Int) (n : Nat) : Turn P w K tg (Itr lo n) [it] it (fun i h => IsRangeIter h it (lo + (i : Nat) * 1) ((n : Int) - (i : Nat)) 1) where
  mem := by simp
  obj := fun i h st b hb => by
    have e : b = it := by simpa using hb
    subst e
    exact ⟨_, st, fun v z => by
      have z' : Data.fields _ = Data.cell v := z
      cases z'⟩
  keep := fun i h h' st k => k it (by simp) _ st
  item := by
    intro X hP hw hK hc i pins s σ H E I hf st hg
    subst hP hw hK
    obtain ⟨f0, f1, f2, f3, f4, f5⟩ := hf it (by simp)
    have W := Walks.range (prog := X.prog) (w := X.w) (I.ok.hd hc) it lo 1 n
    refine W.item i s _ _ hg st fun v h' tk hv st' kk => ?_
    obtain ⟨t, rfl⟩ := hv
    have I1 : Inv X pins σ H { s with heap := h', toks := tk } := I.turned (fun b o hb e => kk b o (by simpa using hb) e) f0 f1 f3 f4 f5
    refine ⟨_, rfl, go_of (s := { s with heap := h', toks := tk }) (n := "range_iterator") st' rfl rfl (by decide) ⟨.int (lo + i), H, I1, ⟨t, ?_⟩, ⟨rfl, rfl⟩, st', fun b hb => (hf b hb).1⟩⟩
    rw [Int.mul_one]
  done := by
    intro X hP hw hK hc i pins s σ H E I hf st hg
    subst hP hw hK
    obtain ⟨f0, f1, f2, f3, f4, f5⟩ := hf it (by simp)
    exact wpAny_pyNext_range_end (I.ok.hd hc) st (by have : n ≤ i := hg; omega) fun h' eb => ⟨rfl, I.turned (t' := s.toks) (fun b o hb e => eb b o hb e) f0 f1 f3 f4 f5⟩
  self := fun _ _ _ _ _ st h => wpAny_pyIter_rangeiter st h
end L2
namespace L2
open PySem PySem.Spec PyProof.Rows
section
variable {X : Cx} {tg : Expr}
def iList (K : PySem.W.Frag) (tl : TE) : TI := fun σ H R => tl σ H fun x H1 => ∃ a, x = .ref a ∧ (∃ xs, SqL K H1 a xs) ∧ R (Itl K a) H1
def iTup (K : PySem.W.Frag) (tl : TE) : TI := fun σ H R => tl σ H fun x H1 => ∃ a, x = .ref a ∧ (∃ xs, SqT K H1 a xs) ∧ R (Itt K a) H1
theorem pi_list {l : Expr} {tl : TE} (hl : PE X l tl) : PI X tg l (iList X.K tl) := by
  intro pins s σ H R I h
  refine thn (hl pins s σ H _ I h) fun v s1 ⟨x, H1, I1, r1, q1⟩ => ?_
  obtain ⟨a, e, ⟨xs, hq⟩, q⟩ := q1
  subst e
  cases r1
  obtain ⟨its, rv, p, hz⟩ := I1.list hq
  refine wpAny_pyIter_list p.isList ?_
  refine ⟨s1.heap.objs.size, [s1.heap.objs.size], _, _, H1, rfl, I1.kept (t' := s1.toks) fun b o e => Heap.get?_push_of_some _ e, turn_list a _, ⟨_, Heap.get?_push_size _ rfl, rfl, rfl⟩, fun b hb => ?_, q⟩
  have e : b = s1.heap.objs.size := by simpa using hb
  subst e
  exact I1.fpOk (Nat.le_refl _) (I1.hok.fresh (Nat.le_refl _))
theorem range_it {pins : List (Addr × Obj)} {σ : St} {H : Hp} {s : Shared} {R : It → Hp → Prop} {E : Value → Shared → Prop} {lo hi : Int} {t u v : Tok} {tk : Nat} (I : Inv X pins σ H s) (h1 : -(2 ^ 62) ≤ lo) (h2 : lo < 2 ^ 62) (h3 : -(2 ^ 62) ≤ hi) (h4 : hi < 2 ^ 62)
    (q : R (Itr lo (hi - lo).toNat) H) : wpAny (model X.prog X.w) X.A (pyIter (.ref s.heap.objs.size)) (PIE X pins σ tg R) E { s with heap := s.heap.push { cls := .type "range", data := .fields #[.int lo t, .int hi u, .int 1 v] }, toks := tk } := by
  refine wpAny_pyIter_range (IsRange.new ..) (small_one h1 h2 h3 h4) ?_
  have I1 : Inv X pins σ H { s with heap := s.heap.push { cls := .type "range", data := .fields #[.int lo t, .int hi u, .int 1 v] }, toks := tk } := I.kept fun b o e => Heap.get?_push_of_some _ e
  refine ⟨(s.heap.push { cls := .type "range", data := .fields #[.int lo t, .int hi u, .int 1 v] }).objs.size, [(s.heap.push { cls := .type "range", data := .fields #[.int lo t, .int hi u, .int 1 v] }).objs.size], _, _, H, rfl,
    I1.kept (t' := tk) fun b o e => Heap.get?_push_of_some _ e, turn_range _ lo (hi - lo).toNat, ?_, fun b hb => ?_, q⟩
  · have e1 : lo + ((0 : Nat) : Int) * 1 = lo := by simp
    have e2 : (((hi - lo).toNat : Nat) : Int) - ((0 : Nat) : Int) = Builtin.Range.rangeSize lo hi 1 := by rw [rangeSize_one]; split <;> omega
    show IsRangeIter _ _ (lo + ((0 : Nat) : Int) * 1) ((((hi - lo).toNat : Nat) : Int) - ((0 : Nat) : Int)) 1
    rw [e1, e2]
    exact Heap.get?_push_size _ rfl
  · have e : b = (s.heap.push { cls := .type "range", data := .fields #[.int lo t, .int hi u, .int 1 v] }).objs.size := by simpa using hb
    subst e
    exact I1.fpOk (Nat.le_refl _) (I1.hok.fresh (Nat.le_refl _))
def iRng1 (ta : TA) : TI := fun σ H R => ta σ H fun vs H1 => ∃ j : Int, vs = [.int j] ∧ -(2 ^ 62) ≤ j ∧ j < 2 ^ 62 ∧ R (Itr 0 j.toNat) H1
def iRng2 (ta : TA) : TI := fun σ H R => ta σ H fun vs H1 => ∃ i j : Int, vs = [.int i, .int j] ∧ (-(2 ^ 62) ≤ i ∧ i < 2 ^ 62 ∧ -(2 ^ 62) ≤ j ∧ j < 2 ^ 62) ∧ R (Itr i (j - i).toNat) H1
theorem pi_range1 {a : Expr} {ta : TA} {p pos : Pos} (hg : Gl X "range") (hm : X.mg "range" = none) (ha : PA X [a] ta) (hs : starEach [a] X.env = [(false, eval a X.env)] := by rfl) : PI X tg (.Call (.Name "range" p) [a] [] pos) (iRng1 ta) := by
  intro pins s σ H R I h
  refine Call_ (ld_blt I hg hm boot_range (PyProof.Rows.callWith_type1 (thn (ha pos pins s σ H _ I h) fun us s1 ⟨vs, H1, I1, r1, q1⟩ => ?_) hs rfl))
  obtain ⟨j, e, q1, q2, q⟩ := q1
  subst e
  cases r1 with
  | cons r rr =>
    cases rr
    obtain ⟨t, rfl⟩ := r
    exact call_range_1 (range_it I1 (by omega) (by omega) q1 q2 (by simpa using q))
def tFor (wi : TI) (g : TG) (tb : TS) : TS := fun D σ H => wi σ H fun J H1 => ∃ W : Nat → Nat → St → Hp → Prop, (∃ m, W 0 m σ H1) ∧ ∀ i m σ H, W i m σ H →
  (J.stop i H ∧ D.nx σ H) ∨ (J.go i H ∧ ∃ N : St → Hp → Prop, (∀ σ' H', N σ' H' → ∃ m', m' < m ∧ W (i + 1) m' σ' H') ∧ ∀ x H', J.yld i H x H' → g x σ H' fun σ2 H2 => tb { D with nx := N, ct := N, bk := D.nx } σ2 H2)
def pinsAt (fp : List Addr) (h : Heap) : List (Addr × Obj) := fp.filterMap fun b => (h.get? b).map fun o => (b, o)
theorem mem_pinsAt {fp : List Addr} {h : Heap} {b : Addr} {o : Obj} (hb : b ∈ fp) (e : h.get? b = some o) : (b, o) ∈ pinsAt fp h := List.mem_filterMap.mpr ⟨b, hb, by rw [e]; rfl⟩
theorem of_pinsAt {fp : List Addr} {h : Heap} {p : Addr × Obj} (hp : p ∈ pinsAt fp h) : p.1 ∈ fp ∧ h.get? p.1 = some p.2 := by
  obtain ⟨b, hb, e⟩ := List.mem_filterMap.mp hp
  cases q : h.get? b with
  | none => rw [q] at e; cases e
  | some o =>
    rw [q] at e
    have e' : (b, o) = p := Option.some.inj e
    subst e'
    exact ⟨hb, q⟩
theorem Inv.pinned {pins : List (Addr × Obj)} {σ : St} {H : Hp} {s : Shared} {fp : List Addr} (I : Inv X pins σ H s) (hf : ∀ b ∈ fp, FpOk X pins H b) (ho : ∀ b ∈ fp, ∃ o, s.heap.get? b = some o ∧ ∀ v, o.data ≠ .cell v) : Inv X (pins ++ pinsAt fp s.heap) σ H s :=
  I.pins_of fun p hp => (List.mem_append.mp hp).elim (fun z => I.pin p (List.mem_append_right _ z)) fun z => by
    obtain ⟨hb, e⟩ := of_pinsAt z
    obtain ⟨f0, f1, f2, _⟩ := hf p.1 hb
    obtain ⟨o, e', d⟩ := ho p.1 hb
    rw [e] at e'; cases e'
    exact ⟨e, f0, f1, f2, d⟩
theorem Inv.unpinned {pins pl : List (Addr × Obj)} {σ : St} {H : Hp} {s : Shared} (I : Inv X (pins ++ pl) σ H s) : Inv X pins σ H s := I.pins_of fun p hp => I.pin p (List.mem_append_right _ (List.mem_append_left _ hp))
theorem ps_for {iter : Expr} {body : List Stmt} {wi : TI} {g : TG} {tb : TS} {pos : Pos} (hp : PassesOwn (model X.prog X.w) X.A X.env X.xe) (hc : X.calm = true) (hi : PI X tg iter wi) (hg : PG X tg g) (hb : PSs X body tb)
    (hs : ∀ x, foldedSetIterable iter X.env x = pure x := by intro _; rfl) : PS X (.For tg iter body [] pos) (tFor wi g tb) := by
  intro pins s σ H D I h
  refine wpAny_For (thn (hi pins s σ H _ I h) fun v s1 h1 => thn h1 fun itv s2 h2 => ?_) hs
  obtain ⟨it, fp, tn, J, H2, e, I2, T, st2, f2, W, ⟨m0, w0⟩, turn⟩ := h2
  subst e
  -- what stays true of the iterator's objects through the loop
  have stat : ∀ {H' : Hp}, (∀ b ∈ fp, H' b = none) → ∀ b ∈ fp, FpOk X pins H' b := fun hn b hb => ⟨hn b hb, (f2 b hb).2⟩
  refine codeAny_forLoop_any (fun n s' => ∃ i σ' H', Inv X pins σ' H' s' ∧ tn i s'.heap ∧ (∀ b ∈ fp, H' b = none) ∧ W i n σ' H') ?_ m0 ⟨0, σ, H2, I2, st2, fun b hb => (f2 b hb).1, w0⟩
  rintro n s3 ⟨i, σ3, H3, I3, st3, fr3, w3⟩
  rcases turn i n σ3 H3 w3 with ⟨stop, qn⟩ | ⟨go, N, hN, step⟩
  · refine wpAny_passesOwn hp (thn (T.done X rfl rfl rfl hc i pins s3 σ3 H3 X.xe I3 (stat fr3) st3 stop) fun r s4 ⟨hr, I4⟩ => ?_)
    subst hr
    exact wpAny_execs_nil ⟨σ3, H3, I4, qn⟩
  · refine wpAny_passesOwn hp (thn (T.item X rfl rfl rfl hc i pins s3 σ3 H3 X.xe I3 (stat fr3) st3 go) fun r s4 ⟨u, hr, h4⟩ => ?_)
    subst hr
    refine wpAny_passesOwn hp (thn h4 fun _ s5 ⟨x, H5, I5, r5, y5, st5, fr5⟩ => ?_)
    have I5' := I5.pinned (stat fr5) (T.obj _ _ st5)
    refine wpAny_passesOwn hp (thn (hg _ s5 σ3 H5 x u _ I5' r5 (step x H5 y5)) fun _ s6 ⟨σ6, H6, I6, q6⟩ => ?_)
    refine wpAny_passesOwn hp (thn (hb _ s6 σ6 H6 _ I6 q6) fun f s7 q7 => ?_)
    have again : ∀ {σ7 : St} {H7 : Hp}, Inv X (pins ++ pinsAt fp s5.heap) σ7 H7 s7 → N σ7 H7 → ∃ m, m < n ∧ ∃ i σ' H', Inv X pins σ' H' s7 ∧ tn i s7.heap ∧ (∀ b ∈ fp, H' b = none) ∧ W i m σ' H' := fun {σ7 H7} I7 n7 => by
      obtain ⟨m', hm, w7⟩ := hN σ7 H7 n7
      refine ⟨m', hm, i + 1, σ7, H7, I7.unpinned, T.keep _ _ _ st5 fun b hb o e => (I7.pin (b, o) (List.mem_append_right _ (List.mem_append_right _ (mem_pinsAt hb e)))).1, fun b hb => ?_, w7⟩
      obtain ⟨o, e, d⟩ := T.obj _ _ st5 b hb
      exact (I7.pin (b, o) (List.mem_append_right _ (List.mem_append_right _ (mem_pinsAt hb e)))).2.1
    cases f with
    | next => obtain ⟨σ7, H7, I7, n7⟩ := q7; exact again I7 n7
    | cont => obtain ⟨σ7, H7, I7, n7⟩ := q7; exact again I7 n7
    | brk => obtain ⟨σ7, H7, I7, q7⟩ := q7; exact ⟨σ7, H7, I7.unpinned, q7⟩
    | ret v => obtain ⟨x7, σ7, H7, I7, r7, q7⟩ := q7; exact ⟨x7, σ7, H7, I7.unpinned, r7, q7⟩
end
theorem for_list {K : PySem.W.Frag} {a : Addr} {xs : List V} {g : TG} {tb : TS} {D : Ends} {σ : St} {H : Hp} (Pv : Nat → St → Hp → Prop) (h0 : Pv 0 σ H) (hl : ∀ i σ H, i ≤ xs.length → Pv i σ H → SqL K H a xs)
    (hs : ∀ i x σ H, xs[i]? = some x → Pv i σ H → g x σ H fun σ2 H2 => tb { D with nx := Pv (i + 1), ct := Pv (i + 1), bk := D.nx } σ2 H2) (hd : ∀ σ H, Pv xs.length σ H → D.nx σ H) :
    ∃ W : Nat → Nat → St → Hp → Prop, (∃ m, W 0 m σ H) ∧ ∀ i m σ H, W i m σ H →
      ((Itl K a).stop i H ∧ D.nx σ H) ∨ ((Itl K a).go i H ∧ ∃ N : St → Hp → Prop, (∀ σ' H', N σ' H' → ∃ m', m' < m ∧ W (i + 1) m' σ' H') ∧ ∀ x H', (Itl K a).yld i H x H' → g x σ H' fun σ2 H2 => tb { D with nx := N, ct := N, bk := D.nx } σ2 H2) := by
  refine ⟨fun i m σ H => m = xs.length - i ∧ i ≤ xs.length ∧ Pv i σ H, ⟨xs.length, by simp, Nat.zero_le _, h0⟩, ?_⟩
  rintro i m σ H ⟨rfl, hi, p⟩
  have q := hl i σ H hi p
  by_cases hlt : i < xs.length
  · refine .inr ⟨⟨xs, xs[i], q, by simp [hlt]⟩, Pv (i + 1), fun σ' H' p' => ⟨xs.length - (i + 1), by omega, rfl, hlt, p'⟩, fun x H' y => ?_⟩
    obtain ⟨e, y⟩ := y
    subst e
    exact hs i x σ _ (y xs q) p
  · have e : i = xs.length := by omega
    subst e
    exact .inl ⟨⟨xs, q, Nat.le_refl _⟩, hd σ H p⟩
theorem for_range {lo : Int} {n : Nat} {g : TG} {tb : TS} {D : Ends} {σ : St} {H : Hp} (Pv : Nat → St → Hp → Prop) (h0 : Pv 0 σ H)
    (hs : ∀ i σ H, i < n → Pv i σ H → g (.int (lo + i)) σ H fun σ2 H2 => tb { D with nx := Pv (i + 1), ct := Pv (i + 1), bk := D.nx } σ2 H2) (hd : ∀ σ H, Pv n σ H → D.nx σ H) :
    ∃ W : Nat → Nat → St → Hp → Prop, (∃ m, W 0 m σ H) ∧ ∀ i m σ H, W i m σ H →
      ((Itr lo n).stop i H ∧ D.nx σ H) ∨ ((Itr lo n).go i H ∧ ∃ N : St → Hp → Prop, (∀ σ' H', N σ' H' → ∃ m', m' < m ∧ W (i + 1) m' σ' H') ∧ ∀ x H', (Itr lo n).yld i H x H' → g x σ H' fun σ2 H2 => tb { D with nx := N, ct := N, bk := D.nx } σ2 H2) := by
  refine ⟨fun i m σ H => m = n - i ∧ i ≤ n ∧ Pv i σ H, ⟨n, by simp, Nat.zero_le _, h0⟩, ?_⟩
  rintro i m σ H ⟨rfl, hi, p⟩
  by_cases hlt : i < n
  · refine .inr ⟨hlt, Pv (i + 1), fun σ' H' p' => ⟨n - (i + 1), by omega, rfl, hlt, p'⟩, fun x H' y => ?_⟩
    obtain ⟨e, y⟩ := y
    subst e y
    exact hs i σ _ hlt p
  · have e : i = n := by omega
    subst e
    exact .inl ⟨Nat.le_refl _, hd σ H p⟩
end L2
namespace L2
open PySem PySem.Spec PyProof.Rows
abbrev R2 := V → V → Hp → VK → Prop
def OpR (X : Cx) (f : Value → Value → Sem Value) (r : R2) : Prop :=
  ∀ (pins : List (Addr × Obj)) (s : Shared) (σ : St) (H : Hp) (x y : V) (v u : Value) (Q : VK), Inv X pins σ H s → RelV x v → RelV y u → r x y H Q →
    wpAny (model X.prog X.w) X.A (f v u) (EP X pins σ Q) X.xe s
def UnR (X : Cx) (f : Value → Sem Value) (r : V → Hp → VK → Prop) : Prop :=
  ∀ (pins : List (Addr × Obj)) (s : Shared) (σ : St) (H : Hp) (x : V) (v : Value) (Q : VK), Inv X pins σ H s → RelV x v → r x H Q →
    wpAny (model X.prog X.w) X.A (f v) (EP X pins σ Q) X.xe s
def CallR (X : Cx) (f : Value) (r : List V → Hp → VK → Prop) : Prop :=
  ∀ (pins : List (Addr × Obj)) (s : Shared) (σ : St) (H : Hp) (xs : List V) (us : List Value) (Q : VK), Inv X pins σ H s → Vals xs us → r xs H Q →
    wpAny (model X.prog X.w) X.A (call f us) (EP X pins σ Q) X.xe s
def tOp (r : R2) (ta tb : TE) : TE := fun σ H Q => ta σ H fun x H1 => tb σ H1 fun y H2 => r x y H2 Q
def tUn (r : V → Hp → VK → Prop) (ta : TE) : TE := fun σ H Q => ta σ H fun x H1 => r x H1 Q
def rI (C : Int → Int → Prop) (g : Int → Int → V) : R2 := fun x y H Q => ∃ i j, x = .int i ∧ y = .int j ∧ C i j ∧ Q (g i j) H
def rI0 (g : Int → Int → V) : R2 := fun x y H Q => ∃ i j, x = .int i ∧ y = .int j ∧ Q (g i j) H
def rU (g : Int → V) : V → Hp → VK → Prop := fun x H Q => ∃ i, x = .int i ∧ Q (g i) H
section
variable {X : Cx} {a b c : Expr} {ta tb tc : TE} {pos : Pos}
theorem binT (ha : PE X a ta) (hb : PE X b tb) {pins : List (Addr × Obj)} {s : Shared} {σ : St} {H : Hp} {R : V → V → Hp → Prop} (I : Inv X pins σ H s)
    (h : ta σ H fun x H1 => tb σ H1 fun y H2 => R x y H2) {Q : Value → Shared → Prop} {f : Value → Value → Sem Value}
    (hf : ∀ v u s2 x y H2, Inv X pins σ H2 s2 → RelV x v → RelV y u → R x y H2 → wpAny (model X.prog X.w) X.A (f v u) Q X.xe s2) :
    wpAny (model X.prog X.w) X.A (eval a X.env) (fun v s₁ => wpAny (model X.prog X.w) X.A (eval b X.env) (fun u s₂ => wpAny (model X.prog X.w) X.A (f v u) Q X.xe s₂) X.xe s₁) X.xe s := by
  refine thn (ha pins s σ H _ I h) fun v s1 ⟨x, H1, I1, r1, q1⟩ => ?_
  refine thn (hb pins s1 σ H1 _ I1 q1) fun u s2 ⟨y, H2, I2, r2, q2⟩ => ?_
  exact hf v u s2 x y H2 I2 r1 r2 q2
theorem pe_op {op : Operator} {r : R2} (ho : OpR X (binaryOp op) r) (ha : PE X a ta) (hb : PE X b tb) : PE X (.BinOp a op b pos) (tOp r ta tb) := by
  intro pins s σ H Q I h
  exact wpAny_BinOp (binT ha hb I h fun v u s2 x y H2 I2 rx ry q => ho pins s2 σ H2 x y v u Q I2 rx ry q)
theorem pe_un {op : UnaryOp} {r : V → Hp → VK → Prop} (ho : UnR X (unaryOp op) r) (ha : PE X a ta) : PE X (.UnaryOp op a pos) (tUn r ta) := by
  intro pins s σ H Q I h
  exact UnaryOp_ (thn (ha pins s σ H _ I h) fun v s1 ⟨x, H1, I1, r1, q1⟩ => ho pins s1 σ H1 x v Q I1 r1 q1)
theorem opI {f : Value → Value → Sem Value} {C : Int → Int → Prop} {g : Int → Int → Int}
    (rule : ∀ (i j : Int) (t u : Tok) (s : Shared) (Q : Value → Shared → Prop) (E : Value → Shared → Prop), C i j → Q (.int (g i j) s.toks) { s with toks := s.toks + 1 } → wpAny (model X.prog X.w) X.A (f (.int i t) (.int j u)) Q E s) :
    OpR X f (rI C fun i j => .int (g i j)) := by
  intro pins s σ H x y v u Q I rx ry h
  obtain ⟨i, j, rfl, rfl, hc, q⟩ := h
  obtain ⟨t, rfl⟩ := rx
  obtain ⟨t', rfl⟩ := ry
  exact rule i j t t' s _ _ hc ⟨.int (g i j), H, I.tok _, ⟨_, rfl⟩, q⟩
theorem opI0 {f : Value → Value → Sem Value} {g : Int → Int → Int}
    (rule : ∀ (i j : Int) (t u : Tok) (s : Shared) (Q : Value → Shared → Prop) (E : Value → Shared → Prop), Q (.int (g i j) s.toks) { s with toks := s.toks + 1 } → wpAny (model X.prog X.w) X.A (f (.int i t) (.int j u)) Q E s) :
    OpR X f (rI0 fun i j => .int (g i j)) := by
  intro pins s σ H x y v u Q I rx ry h
  obtain ⟨i, j, rfl, rfl, q⟩ := h
  obtain ⟨t, rfl⟩ := rx
  obtain ⟨t', rfl⟩ := ry
  exact rule i j t t' s _ _ ⟨.int (g i j), H, I.tok _, ⟨_, rfl⟩, q⟩
theorem opB0 {f : Value → Value → Sem Value} {g : Int → Int → Bool}
    (rule : ∀ (i j : Int) (t u : Tok) (s : Shared) (Q : Value → Shared → Prop) (E : Value → Shared → Prop), Q (.bool (g i j)) s → wpAny (model X.prog X.w) X.A (f (.int i t) (.int j u)) Q E s) :
    OpR X f (rI0 fun i j => .bl (g i j)) := by
  intro pins s σ H x y v u Q I rx ry h
  obtain ⟨i, j, rfl, rfl, q⟩ := h
  obtain ⟨t, rfl⟩ := rx
  obtain ⟨t', rfl⟩ := ry
  exact rule i j t t' s _ _ ⟨.bl (g i j), H, I, rfl, q⟩
def CPow (i j : Int) : Prop := 0 ≤ j ∧ j ≤ 1000000 ∧ i.natAbs < 2 ^ 64
def CMul (i j : Int) : Prop := (-(2 ^ 64) < i ∧ i < 2 ^ 64) ∨ (-(2 ^ 64) < j ∧ j < 2 ^ 64)
theorem CMul.ok {i j : Int} (h : CMul i j) : IntMulOk i j := by
  rcases h with ⟨h1, h2⟩ | ⟨h1, h2⟩
  · exact .of_left (intBits_le_64 h1 h2)
  · exact .of_right (intBits_le_64 h1 h2)
theorem two_pow_nn (k : Nat) : (0 : Int) ≤ 2 ^ k := by
  rw [two_pow_cast]
  exact Int.natCast_nonneg _
theorem op_add : OpR X (binaryOp .Add) (rI0 fun i j => .int (i + j)) := opI0 fun _ _ _ _ _ _ _ q => add_int q
theorem op_sub : OpR X (binaryOp .Sub) (rI0 fun i j => .int (i - j)) := opI0 fun _ _ _ _ _ _ _ q => sub_int q
theorem op_mul : OpR X (binaryOp .Mult) (rI CMul fun i j => .int (i * j)) := opI fun _ _ _ _ _ _ _ hc q => mul_int q hc.ok
theorem op_mod : OpR X (binaryOp .Mod) (rI (fun _ j => 0 < j) fun i j => .int (i % j)) := opI fun i j _ _ _ _ _ hc q => by
  have h1 : (0 : Int) < j := hc
  exact mod_int' (by omega) (by rw [Int.fmod_eq_emod_of_nonneg i (by omega)]; exact q)
theorem op_pow : OpR X (binaryOp .Pow) (rI CPow fun i j => .int (i ^ j.toNat)) := opI fun _ _ _ _ _ _ _ hc q => pow_int_small hc.1 hc.2.1 hc.2.2 q
theorem op_shl : OpR X (binaryOp .LShift) (rI CPow fun i j => .int (i * 2 ^ j.toNat)) := opI fun _ _ _ _ _ _ _ hc q => lshift_int_small hc.1 hc.2.1 hc.2.2 q
theorem op_shr : OpR X (binaryOp .RShift) (rI (fun _ j => 0 ≤ j) fun i j => .int (i / 2 ^ j.toNat)) := opI fun i j _ _ _ _ _ hc q =>
  rshift_int hc (by rw [Int.fdiv_eq_ediv_of_nonneg i (two_pow_nn _)]; exact q)
theorem op_and : OpR X (binaryOp .BitAnd) (rI0 fun i j => .int (Builtin.bitAnd i j)) := opI0 fun _ _ _ _ _ _ _ q => and_int q
theorem op_or : OpR X (binaryOp .BitOr) (rI0 fun i j => .int (Builtin.bitOr i j)) := opI0 fun _ _ _ _ _ _ _ q => or_int q
theorem unI {f : Value → Sem Value} {g : Int → Int}
    (rule : ∀ (i : Int) (t : Tok) (s : Shared) (Q : Value → Shared → Prop) (E : Value → Shared → Prop), Q (.int (g i) s.toks) { s with toks := s.toks + 1 } → wpAny (model X.prog X.w) X.A (f (.int i t)) Q E s) :
    UnR X f (rU fun i => .int (g i)) := by
  intro pins s σ H x v Q I rx h
  obtain ⟨i, rfl, q⟩ := h
  obtain ⟨t, rfl⟩ := rx
  exact rule i t s _ _ ⟨.int (g i), H, I.tok _, ⟨_, rfl⟩, q⟩
theorem un_neg : UnR X (unaryOp .USub) (rU fun i => .int (-i)) := unI fun _ _ _ _ _ q => neg_int q
end
def scal : V → V → Bool
  | .non, .non => true | .non, .int _ => true | .int _, .non => true | .non, .bl _ => true | .bl _, .non => true | .non, .str _ => true | .str _, .non => true
  | .int _, .int _ => true | .bl _, .bl _ => true | .str _, .str _ => true | .byt _, .byt _ => true
  | .int _, .str _ => true | .str _, .int _ => true | .bl _, .str _ => true | .str _, .bl _ => true
  | _, _ => false
def rEq : R2 := fun x y H Q => scal x y = true ∧ Q (.bl (decide (x = y))) H
def rNe : R2 := fun x y H Q => scal x y = true ∧ Q (.bl (!decide (x = y))) H
theorem dec_int {i j : Int} : decide (V.int i = V.int j) = (i == j) := by
  rw [Bool.eq_iff_iff]
  simp
theorem dec_bl {i j : Bool} : decide (V.bl i = V.bl j) = (i == j) := by
  rw [Bool.eq_iff_iff]
  simp
theorem dec_str {i j : Str} : decide (V.str i = V.str j) = (i == j) := by
  rw [Bool.eq_iff_iff]
  simp
theorem dec_byt {i j : Array UInt8} : decide (V.byt i = V.byt j) = (i.toList == j.toList) := by
  rw [Bool.eq_iff_iff]
  cases i
  cases j
  simp
section
variable {X : Cx} {a b c : Expr} {ta tb tc : TE} {pos : Pos}
theorem fin_bl {pins : List (Addr × Obj)} {σ : St} {H : Hp} {s : Shared} {Q : VK} {k k' : Bool} (I : Inv X pins σ H s) (q : Q (.bl k) H) (e : k = k') : EP X pins σ Q (.bool k') s := by
  subst e
  exact ⟨.bl k, H, I, rfl, q⟩
theorem op_eq : OpR X (compareOp .Eq) rEq := by
  intro pins s σ H x y v u Q I rx ry h
  obtain ⟨hs, q⟩ := h
  cases x with
  | non =>
    cases rx
    cases y with
    | non => cases ry; exact PySem.EqNone.eq_none_none (fin_bl I q (by simp))
    | bl j => cases ry; exact PySem.EqNone.eq_none_bool (fin_bl I q (by simp))
    | int j => obtain ⟨t', rfl⟩ := ry; exact PySem.EqNone.eq_none_int (fin_bl I q (by simp))
    | str j => obtain ⟨t', rfl⟩ := ry; exact PySem.EqNone.eq_none_str (fin_bl I q (by simp))
    | _ => exact absurd (show false = true from hs) Bool.false_ne_true
  | bl i =>
    cases rx
    cases y with
    | non => cases ry; exact PySem.EqNone.eq_bool_none (fin_bl I q (by simp))
    | bl j => cases ry; exact eq_bool (fin_bl I q dec_bl)
    | str j => obtain ⟨t', rfl⟩ := ry; exact PySem.EqMixed.eq_bool_str (fin_bl I q (by simp))
    | _ => exact absurd (show false = true from hs) Bool.false_ne_true
  | int i =>
    obtain ⟨t, rfl⟩ := rx
    cases y with
    | non => cases ry; exact PySem.EqNone.eq_int_none (fin_bl I q (by simp))
    | int j => obtain ⟨t', rfl⟩ := ry; exact eq_int (fin_bl I q dec_int)
    | str j => obtain ⟨t', rfl⟩ := ry; exact PySem.EqMixed.eq_int_str (fin_bl I q (by simp))
    | _ => exact absurd (show false = true from hs) Bool.false_ne_true
  | str i =>
    obtain ⟨t, rfl⟩ := rx
    cases y with
    | non => cases ry; exact PySem.EqNone.eq_str_none (fin_bl I q (by simp))
    | bl j => cases ry; exact PySem.EqMixed.eq_str_bool (fin_bl I q (by simp))
    | int j => obtain ⟨t', rfl⟩ := ry; exact PySem.EqMixed.eq_str_int (fin_bl I q (by simp))
    | str j => obtain ⟨t', rfl⟩ := ry; exact eq_str (fin_bl I q dec_str)
    | _ => exact absurd (show false = true from hs) Bool.false_ne_true
  | byt i =>
    obtain ⟨t, rfl⟩ := rx
    cases y with
    | byt j => obtain ⟨t', rfl⟩ := ry; exact PySem.W.eq_bytes (fin_bl I q dec_byt)
    | _ => exact absurd (show false = true from hs) Bool.false_ne_true
  | _ => cases y <;> exact absurd (show false = true from hs) Bool.false_ne_true
theorem op_ne : OpR X (compareOp .NotEq) rNe := by
  intro pins s σ H x y v u Q I rx ry h
  obtain ⟨hs, q⟩ := h
  cases x with
  | non =>
    cases rx
    cases y with
    | non => cases ry; exact PySem.EqNone.ne_none_none (fin_bl I q (by simp))
    | bl j => cases ry; exact PySem.EqNone.ne_none_bool (fin_bl I q (by simp))
    | int j => obtain ⟨t', rfl⟩ := ry; exact PySem.EqNone.ne_none_int (fin_bl I q (by simp))
    | str j => obtain ⟨t', rfl⟩ := ry; exact PySem.EqNone.ne_none_str (fin_bl I q (by simp))
    | _ => exact absurd (show false = true from hs) Bool.false_ne_true
  | bl i =>
    cases rx
    cases y with
    | non => cases ry; exact PySem.EqNone.ne_bool_none (fin_bl I q (by simp))
    | bl j => cases ry; exact ne_bool (fin_bl I q (congrArg not dec_bl))
    | str j => obtain ⟨t', rfl⟩ := ry; exact PySem.EqMixed.ne_bool_str (fin_bl I q (by simp))
    | _ => exact absurd (show false = true from hs) Bool.false_ne_true
  | int i =>
    obtain ⟨t, rfl⟩ := rx
    cases y with
    | non => cases ry; exact PySem.EqNone.ne_int_none (fin_bl I q (by simp))
    | int j => obtain ⟨t', rfl⟩ := ry; exact ne_int (fin_bl I q (congrArg not dec_int))
    | str j => obtain ⟨t', rfl⟩ := ry; exact PySem.EqMixed.ne_int_str (fin_bl I q (by simp))
    | _ => exact absurd (show false = true from hs) Bool.false_ne_true
  | str i =>
    obtain ⟨t, rfl⟩ := rx
    cases y with
    | non => cases ry; exact PySem.EqNone.ne_str_none (fin_bl I q (by simp))
    | bl j => cases ry; exact PySem.EqMixed.ne_str_bool (fin_bl I q (by simp))
    | int j => obtain ⟨t', rfl⟩ := ry; exact PySem.EqMixed.ne_str_int (fin_bl I q (by simp))
    | str j => obtain ⟨t', rfl⟩ := ry; exact ne_str (fin_bl I q (congrArg not dec_str))
    | _ => exact absurd (show false = true from hs) Bool.false_ne_true
  | byt i =>
    obtain ⟨t, rfl⟩ := rx
    cases y with
    | byt j => obtain ⟨t', rfl⟩ := ry; exact PySem.W.ne_bytes (fin_bl I q (congrArg not dec_byt))
    | _ => exact absurd (show false = true from hs) Bool.false_ne_true
  | _ => cases y <;> exact absurd (show false = true from hs) Bool.false_ne_true
theorem op_lt : OpR X (compareOp .Lt) (rI0 fun i j => .bl (decide (i < j))) := opB0 fun _ _ _ _ _ _ _ q => lt_int q
theorem op_le : OpR X (compareOp .LtE) (rI0 fun i j => .bl (decide (i ≤ j))) := opB0 fun _ _ _ _ _ _ _ q => le_int q
theorem op_gt : OpR X (compareOp .Gt) (rI0 fun i j => .bl (decide (j < i))) := opB0 fun _ _ _ _ _ _ _ q => gt_int q
theorem op_ge : OpR X (compareOp .GtE) (rI0 fun i j => .bl (decide (j ≤ i))) := opB0 fun _ _ _ _ _ _ _ q => ge_int q
theorem OpR.or {f : Value → Value → Sem Value} {r r' : R2} (h : OpR X f r) (h' : OpR X f r') : OpR X f (fun x y H Q => r x y H Q ∨ r' x y H Q) := by
  intro pins s σ H x y v u Q I rx ry q
  rcases q with q | q
  · exact h pins s σ H x y v u Q I rx ry q
  · exact h' pins s σ H x y v u Q I rx ry q
theorem nomark (b : Expr) {op : CmpOp} (h : op ≠ .In := by decide) (h2 : op ≠ .NotIn := by decide) : behindInMarks op b = false := by
  have e1 : (op == CmpOp.In) = false := by cases op <;> first | rfl | exact absurd rfl h
  have e2 : (op == CmpOp.NotIn) = false := by cases op <;> first | rfl | exact absurd rfl h2
  cases b <;> simp [behindInMarks, e1, e2]
theorem pe_cmpR {op : CmpOp} {r : R2} (ho : OpR X (compareOp op) r) (ha : PE X a ta) (hb : PE X b tb) (hm : behindInMarks op b = false) : PE X (.Compare a [op] [b] pos) (tOp r ta tb) := by
  intro pins s σ H Q I h
  exact wpAny_Compare1 (binT ha hb I h fun v u s2 x y H2 I2 rx ry q => ho pins s2 σ H2 x y v u Q I2 rx ry q) hm
def tTest (t : TE) : TT := fun σ H Q => t σ H fun x H' => ∃ k, x = .bl k ∧ Q k H'
theorem pt_cmpR {op : CmpOp} {r : R2} (ho : OpR X (compareOp op) r) (ha : PE X a ta) (hb : PE X b tb) (hm : behindInMarks op b = false) : PT X (.Compare a [op] [b] pos) (tTest (tOp r ta tb)) := by
  intro pins s σ H Q I h
  refine wpAny_isTrue_Compare1 (thn (ha pins s σ H _ I h) fun v s1 ⟨x, H1, I1, r1, q1⟩ => thn (hb pins s1 σ H1 _ I1 q1) fun u s2 ⟨y, H2, I2, r2, q2⟩ =>
    thn (ho pins s2 σ H2 x y v u _ I2 r1 r2 q2) fun c s3 ⟨z, H3, I3, r3, k, e, q3⟩ => ?_) hm
  subst e
  cases r3
  exact wpAny_truthy_bool ⟨H3, I3, q3⟩
def tChain (r r' : R2) (ta tb tc : TE) : TE := fun σ H Q => ta σ H fun x H1 => tb σ H1 fun y H2 => r x y H2 fun z H3 => ∃ k, z = .bl k ∧
  (if k = true then tc σ H3 fun w' H4 => r' y w' H4 Q else Q (.bl false) H3)
theorem pe_chain {op op' : CmpOp} {r r' : R2} (ho : OpR X (compareOp op) r) (ho' : OpR X (compareOp op') r') (ha : PE X a ta) (hb : PE X b tb) (hc : PE X c tc)
    (hm : lastMarks [op, op'] [b, c] = false := by with_unfolding_all rfl) : PE X (.Compare a [op, op'] [b, c] pos) (tChain r r' ta tb tc) := by
  intro pins s σ H Q I h
  refine Compare_chain (thn (ha pins s σ H _ I h) fun v s1 ⟨x, H1, I1, r1, q1⟩ => chain_link (thn (hb pins s1 σ H1 _ I1 q1) fun u s2 ⟨y, H2, I2, r2, q2⟩ =>
    thn (ho pins s2 σ H2 x y v u _ I2 r1 r2 q2) fun d s3 ⟨z, H3, I3, r3, k, e, q3⟩ => ?_)) hm
  subst e
  cases r3
  refine wpAny_truthy_bool ?_
  cases k with
  | false => exact ite_ff ⟨.bl false, H3, I3, rfl, q3⟩
  | true => exact ite_tt (chain_last (thn (hc pins s3 σ H3 _ I3 q3) fun w' s4 ⟨z', H4, I4, r4, q4⟩ => ho' pins s4 σ H4 y z' u w' Q I4 r2 r4 q4))
theorem line63 : (sizeLine : Nat) < 2 ^ 63 := by rw [sizeLine_eq]; decide
theorem vals1 {x : V} {us : List Value} (r : Vals [x] us) : ∃ u, us = [u] ∧ RelV x u := by
  cases r with
  | cons r1 r2 => cases r2; exact ⟨_, rfl, r1⟩
theorem vals2 {x y : V} {us : List Value} (r : Vals [x, y] us) : ∃ u w', us = [u, w'] ∧ RelV x u ∧ RelV y w' := by
  cases r with
  | cons r1 r2 =>
    cases r2 with
    | cons r3 r4 => cases r4; exact ⟨_, _, rfl, r1, r3⟩
theorem call_int1 : CallR X (.type "int") (fun xs H Q => (∃ i, xs = [.int i] ∧ Q (.int i) H) ∨ ∃ k, xs = [.bl k] ∧ Q (.int (if k then 1 else 0)) H) := by
  intro pins s σ H xs us Q I r h
  rcases h with ⟨i, rfl, q⟩ | ⟨k, rfl, q⟩
  · obtain ⟨u, rfl, t, rfl⟩ := vals1 r
    exact call_int_int ⟨.int i, H, I, ⟨_, rfl⟩, q⟩
  · obtain ⟨u, rfl, r1⟩ := vals1 r
    cases r1
    exact call_int_bool ⟨.int (if k then 1 else 0), H, I.tok _, ⟨_, rfl⟩, q⟩
theorem call_str_int : CallR X (.type "str") (fun xs H Q => ∃ i, xs = [.int i] ∧ i.natAbs.log2 < 1920 ∧ Q (.str (toString i)) H) := by
  intro pins s σ H xs us Q I r h
  obtain ⟨i, rfl, hz, q⟩ := h
  obtain ⟨u, rfl, t, rfl⟩ := vals1 r
  exact PySem.P.str_of_int hz ⟨.str _, H, I.tok _, ⟨_, rfl⟩, q⟩
end
end L2
namespace L2
open PySem PySem.Spec PyProof.Rows
structure ObjM (h : Heap) (x dx C : Addr) (mA : Str → Option Value) : Prop where
  obj : h.get? x = some (PySem.W.instObj C dx)
  ns : h.Ns1 dx mA
  ne : dx ≠ x
theorem lookIn_ns {h : Heap} {dx : Addr} {mA : Str → Option Value} (n : h.Ns1 dx mA) : ∃ od, h.get? dx = some od ∧ ∀ name, PySem.W.lookIn name od = some (mA name) := by
  obtain ⟨o, es, ep, ho, hd, hk, _, hm⟩ := n
  refine ⟨o, ho, fun name => ?_⟩
  have e := hm name
  unfold nsFind findBy at e
  rw [← Array.find?_toList] at e
  unfold PySem.W.lookIn
  rw [hd]
  dsimp only
  split
  · rename_i y q
    rw [q] at e
    exact congrArg some e
  · rename_i q
    rw [q] at e
    have a : es.toList.any (·.refKey) = false := by
      rw [List.any_eq_false]
      intro y hy
      obtain ⟨z, t, hkey⟩ := hk y (Array.mem_toList_iff.mp hy)
      simp [DictEntry.refKey, hkey]
    have a' : ¬ es.toList.any (·.refKey) = true := by rw [a]; exact Bool.false_ne_true
    rw [if_neg a']
    exact congrArg some e
theorem ObjM.look {h : Heap} {x dx C : Addr} {mA : Str → Option Value} (I : ObjM h x dx C mA) : ∃ od, PySem.W.InstAt h x (PySem.W.instObj C dx) C (some od) ∧ ∀ name, PySem.W.lookIn name od = some (mA name) :=
  let ⟨od, ho, hl⟩ := lookIn_ns I.ns
  ⟨od, ⟨I.obj, rfl, rfl, ho⟩, hl⟩
section
variable {prog : Program} {w : World} {A : Around} {E : Value → Shared → Prop} {s : Shared} {K : PySem.W.Frag} {x dx C f : Addr} {mA : Str → Option Value} {name : Str} {v : Value}
end
section
variable {P : Program} {w : World} {H H' : Hp} {h h' : Heap} {a C dx : Addr} {fs fs' : List (Str × V)}
theorem ins_get (hok : HOk P w H h) (e : H a = some (.ins C dx fs)) : ∃ mA, ObjM h a dx C mA ∧ (∀ f, RelO (fs.lookup f) (mA f)) ∧ PySem.Within mA (fs.map (·.1)) ∧ fs.length ≤ 1000 ∧ H dx = some (.own a) := by
  obtain ⟨d, z, ne, ob, mA, n, r, q⟩ := (show ObjOk P w H h a (.ins C dx fs) from hok a _ e)
  exact ⟨mA, ⟨ob, n, ne⟩, r, q, z, d⟩
end
structure Cls (K : PySem.W.Frag) (C : Addr) : Prop where
  pg : PySem.W.plainGet K C Str.empty = true
  hd : PySem.W.hasDictIn K C = true
  po : PySem.W.plainOver K C = true
  sa : PySem.W.findIn K (.ref C) "__setattr__" = some (some (.builtin "object.__setattr__"))
theorem Cls.get {K : PySem.W.Frag} {C : Addr} (c : Cls K C) (f : Str) : PySem.W.plainGet K C f = true := c.pg
structure Con (K : PySem.W.Frag) (C : Addr) (f : Str) (v : V) (u : Value) : Prop where
  at_ : PySem.W.findIn K (.ref C) f = some (some u)
  rel : RelV v u
  get : PySem.W.specialIn K u "__get__" = some none
  cp : PySem.W.copiedNames.contains f = false
structure Meth (K : PySem.W.Frag) (C : Addr) (m : Str) (f : Addr) : Prop where
  at_ : PySem.W.findIn K (.ref C) m = some (some (.ref f))
  fn : PySem.W.isFn K (.ref f) = true
  kp : PySem.W.keepIn K (.ref f) = true
section
variable {X : Cx} {pins : List (Addr × Obj)} {σ : St} {H : Hp} {s : Shared} {a C dx : Addr} {fs : List (Str × V)} {f : Str} {v : V} {A : Around} {E : Value → Shared → Prop}
end
section
variable {X : Cx} {o e value : Expr} {f : Str} {pos pos' tpos : Pos} {ta tv : TE}
end
section
variable {X : Cx} {pins : List (Addr × Obj)} {σ : St} {H : Hp} {s : Shared} {A : Around} {E : Value → Shared → Prop} {Q : Value → Shared → Prop} {c : Value} {b : Bool}
inductive TyOf (K : PySem.W.Frag) (H : Hp) : V → Value → Prop where
  | non : TyOf K H .non (.type "NoneType")
  | bl (x : Bool) : TyOf K H (.bl x) (.type "bool")
  | int (i : Int) : TyOf K H (.int i) (.type "int")
  | str (x : Str) : TyOf K H (.str x) (.type "str")
  | flt (x : UInt64) : TyOf K H (.flt x) (.type "float")
  | lst {a : Addr} {xs : List V} (e : H a = some (.lst xs)) : TyOf K H (.ref a) (.type "list")
  | frz {a : Addr} {o : Obj} {xs : List V} (e : H a = some (.frz o (.lst xs))) : TyOf K H (.ref a) (.type "list")
  | tup {a : Addr} {xs : List V} (e : H a = some (.tup xs)) : TyOf K H (.ref a) (.type "tuple")
  | dK {a : Addr} {kvs : List (Key × V)} (e : H a = some (.dK kvs)) : TyOf K H (.ref a) (.type "dict")
  | dT {a : Addr} {kvs : List (List Key × V)} (e : H a = some (.dT kvs)) : TyOf K H (.ref a) (.type "dict")
  | ins {a C dx : Addr} {fs : List (Str × V)} (e : H a = some (.ins C dx fs)) (cl : Cls K C) (ha : PySem.W.findIn K (.ref C) "__class__" = some (some (.builtin "object.__class__")))
      (hn : PySem.W.specialIn K (.builtin "object.__class__") "__get__" = some (some (.builtin "getset_descriptor.__get__"))) (htk : PySem.W.takesIn K (.builtin "object.__class__") = some true)
      (hm : PySem.W.mroIn K C (.type "object") = some true) : TyOf K H (.ref a) (.ref C)
theorem isinst_ok {x : V} {u t : Value} (I : Inv X pins σ H s) (rx : RelV x u) (ty : TyOf X.K H x t) (e : PySem.W.kitOne X.K t c = some b) (h : ∀ tk, Q (.bool b) { s with toks := tk }) :
    wpAny (model X.prog X.w) A (call (.builtin "isinstance") [u, c]) Q E s := by
  cases ty with
  | non => cases (show u = Value.none from rx); exact PySem.W.kia_one PySem.W.kitx_none I.kIn True.intro e (fun z => nomatch z) h
  | bl y => cases (show u = Value.bool y from rx); exact PySem.W.kia_one PySem.W.kitx_bool I.kIn True.intro e (fun z => nomatch z) h
  | int i => obtain ⟨t, q⟩ := (show ∃ t, u = Value.int i t from rx); cases q; exact PySem.W.kia_one PySem.W.kitx_int I.kIn True.intro e (fun z => nomatch z) h
  | str y => obtain ⟨t, q⟩ := (show ∃ t, u = Value.str y t from rx); cases q; exact PySem.W.kia_one PySem.W.kitx_str I.kIn True.intro e (fun z => nomatch z) h
  | flt y => obtain ⟨t, q⟩ := (show ∃ t, u = Value.float y t from rx); cases q; exact PySem.W.kia_one PySem.W.kitx_float I.kIn True.intro e (fun z => nomatch z) h
  | @lst a xs ea =>
    cases (show u = Value.ref a from rx)
    obtain ⟨_, _, n, _, h1⟩ := (show ObjOk X.prog X.w H s.heap a (.lst xs) from I.hok a _ ea)
    exact PySem.W.kia_one PySem.W.kitx_list I.kIn ⟨_, h1, rfl⟩ e (fun z => nomatch z) h
  | @frz a ob xs ea =>
    cases (show u = Value.ref a from rx)
    obtain ⟨_, _, _, n, _, h1⟩ := (show ObjOk X.prog X.w H s.heap a (.frz ob (.lst xs)) from I.hok a _ ea)
    exact PySem.W.kia_one PySem.W.kitx_list I.kIn ⟨_, h1, rfl⟩ e (fun z => nomatch z) h
  | @tup a xs ea =>
    cases (show u = Value.ref a from rx)
    obtain ⟨_, _, _, p⟩ := (show ObjOk X.prog X.w H s.heap a (.tup xs) from I.hok a _ ea)
    obtain ⟨o, h1, h2, _⟩ := p
    exact PySem.W.kia_one PySem.W.kitx_tuple I.kIn ⟨o, h1, h2⟩ e (fun z => nomatch z) h
  | @dK a kvs ea =>
    cases (show u = Value.ref a from rx)
    obtain ⟨_, _, vs, _, p⟩ := (show ObjOk X.prog X.w H s.heap a (.dK kvs) from I.hok a _ ea)
    obtain ⟨o, es, ep, h1, h2, _⟩ := p
    exact PySem.W.kia_one PySem.W.kitx_dict I.kIn ⟨o, h1, h2.1⟩ e (fun z => nomatch z) h
  | @dT a kvs ea =>
    cases (show u = Value.ref a from rx)
    obtain ⟨_, _, xs, _, o, es, ep, h1, h2, _⟩ := (show ObjOk X.prog X.w H s.heap a (.dT kvs) from I.hok a _ ea)
    exact PySem.W.kia_one PySem.W.kitx_dict I.kIn ⟨o, h1, h2.1⟩ e (fun z => nomatch z) h
  | @ins a C dx fs ea cl ha hn htk hm =>
    cases (show u = Value.ref a from rx)
    obtain ⟨mA, O, _⟩ := ins_get I.hok ea
    obtain ⟨od, J, _⟩ := O.look
    exact PySem.W.kia_one (PySem.W.kitx_own (cl.get _) cl.hd ha hn htk hm) I.kIn J e (fun z => nomatch z) h
end
end L2
namespace L2
open PySem PySem.Spec PyProof.Rows
structure Room (k : Nat) (A : Around) : Prop where
  hd : A.handled = none
  dp : A.depth + 3 * k + 5 < recursionLimit
  un : A.units + 16 * k + 200 < cLine
theorem Room.mono {j k : Nat} {A : Around} (r : Room k A) (h : j ≤ k) : Room j A := ⟨r.hd, by have := r.dp; omega, by have := r.un; omega⟩
theorem Room.deeper {k : Nat} {A : Around} (r : Room (k + 1) A) (env : Env) : Room k (A.deeper env) :=
  ⟨r.hd, by have := r.dp; show A.depth + 1 + 3 * k + 5 < _; omega, by have := r.un; show A.units + 3 + 16 * k + 200 < _; omega⟩
theorem Room.depth {k : Nat} {A : Around} (r : Room k A) : A.depth < recursionLimit := by have := r.dp; omega
theorem Room.units {k : Nat} {A : Around} (r : Room k A) : A.units + 64 < cLine := by have := r.un; omega
theorem Room.units0 {k : Nat} {A : Around} (r : Room k A) : A.units < cLine := by have := r.un; omega
def tNil : TA := fun _ H Q => Q [] H
def tCons (ta : TE) (tr : TA) : TA := fun σ H Q => ta σ H fun x H1 => tr σ H1 fun xs H2 => Q (x :: xs) H2
section
variable {X : Cx} {e : Expr} {es : List Expr} {te : TE} {t : TA} {pos : Pos}
theorem pa_nil : PA X [] tNil := fun _ _ _ _ H Q I h => Calls.spliced_nil ⟨[], H, I, .nil, h⟩
theorem pa_cons (ha : PE X e te) (hr : PA X es t) (hs : starEach (e :: es) X.env = (false, eval e X.env) :: starEach es X.env := by rfl) : PA X (e :: es) (tCons te t) := by
  intro pos pins s σ H Q I h
  rw [hs]
  show wpAny _ _ (spliced ((false, eval e X.env) :: backTo pos (starEach es X.env))) _ _ s
  refine Calls.spliced_cons (thn (ha pins s σ H _ I h) fun u s1 ⟨x, H1, I1, r1, q1⟩ => ?_)
  exact thn (hr pos pins s1 σ H1 _ I1 q1) fun us s2 ⟨xs, H2, I2, r2, q2⟩ => ⟨x :: xs, H2, I2, .cons r1 r2, q2⟩
def tTup (t : TA) : TE := fun σ H Q => t σ H fun xs H1 => xs.length ≤ sizeLine ∧ ∀ p, H1 p = none → Q (.ref p) (upd H1 p (.tup xs))
def tLst (t : TA) : TE := fun σ H Q => t σ H fun xs H1 => xs.length ≤ sizeLine ∧ ∀ p, H1 p = none → Q (.ref p) (upd H1 p (.lst xs))
theorem pe_tup {x1} (h : PA X es t) : PE X (.Tuple es x1 pos) (tTup t) := by
  intro pins s σ H Q I hq
  refine wpAny_Tuple_spliced (thn (h pos pins s σ H _ I hq) fun us s1 ⟨xs, H1, I1, r, z, q⟩ => ⟨by rw [← r.length]; exact z, ?_⟩)
  have hf : H1 s1.heap.objs.size = none := I1.hok.fresh (Nat.le_refl _)
  refine ⟨.ref s1.heap.objs.size, upd H1 s1.heap.objs.size (.tup xs), I1.laid (t' := s1.toks) (fun b u e => Heap.get?_push_of_some _ e) (Nat.le_refl _) ?_, rfl, q _ hf⟩
  exact ⟨z, us, r, ⟨_, Heap.get?_push_size _ rfl, rfl, _, rfl⟩⟩
theorem pe_lst (h : PA X es t) : PE X (.List es pos) (tLst t) := by
  intro pins s σ H Q I hq
  refine wpAny_List_spliced (thn (h pos pins s σ H _ I hq) fun us s1 ⟨xs, H1, I1, r, z, q⟩ => ⟨by rw [← r.length]; exact z, ?_⟩)
  have hf : H1 s1.heap.objs.size = none := I1.hok.fresh (Nat.le_refl _)
  refine ⟨.ref s1.heap.objs.size, upd H1 s1.heap.objs.size (.lst xs), I1.laid (t' := s1.toks) (fun b u e => Heap.get?_push_of_some _ e) (Nat.le_refl _) ?_, rfl, q _ hf⟩
  exact ⟨z, us, 0, r, Heap.get?_push_size _ rfl⟩
end
abbrev Sp := List V → Hp → VK → XK → Prop
abbrev CXT := List Env → Hp → Shared → XK → Value → Shared → Prop
structure Env0 (P : Program) (w : World) (K : PySem.W.Frag) (mg : Str → Option Value) (base : Heap) (A : Around) (outer : List Env) (s : Shared) (H : Hp) : Prop where
  frames : A.frames = some outer
  mod : Mod K mg base
  bs : ∀ b o, base.get? b = some o → s.heap.get? b = some o ∧ H b = none
  bsz : base.objs.size ≤ s.heap.objs.size
  funs : s.heap.FunFrames base outer
  frf : ∀ b ∈ frs outer, H b = none
  hok : HOk P w H s.heap
  bare : AllBare s.gens
def CE (outer : List Env) (P : Program) (w : World) (H : Hp) (s : Shared) (Q : VK) (u : Value) (s' : Shared) : Prop :=
  ∃ v H', s'.os = s.os ∧ AllBare s'.gens ∧ Un (frs outer) [] H H' s.heap s'.heap ∧ HOk P w H' s'.heap ∧ RelV v u ∧ Q v H'
def CR (CX : CXT) (outer : List Env) (P : Program) (w : World) (H : Hp) (s : Shared) (Q : VK) (E : XK) (r : Result) (s' : Shared) : Prop :=
  match r with
  | .ok (.ret u) => CE outer P w H s Q u s'
  | .ok _ => False
  | .error e => CX outer H s E e s'
structure FnOk (P : Program) (w : World) (K : PySem.W.Frag) (mg : Str → Option Value) (base : Heap) (CX : CXT) (k : Nat) (f : Addr) (fd : FuncData) (ps : List Str) (sp : Sp) : Prop where
  len : ∀ vs H Q E, sp vs H Q E → vs.length = ps.length
  run : ∀ (A : Around) (outer : List Env) (s : Shared) (H : Hp) (args : Args) (us : List Value) (vs : List V) (Q : VK) (E : XK), Room k A → Env0 P w K mg base A outer s H → BindsTo s fd args (ps.zip us) → Vals vs us → sp vs H Q E →
    codeAny (model P w) A (.call (.ref f) args) (CR CX outer P w H s Q E) s
theorem FnOk.mono {P : Program} {w : World} {K : PySem.W.Frag} {mg : Str → Option Value} {base : Heap} {CX : CXT} {j k : Nat} {f : Addr} {fd : FuncData} {ps : List Str} {sp : Sp} (F : FnOk P w K mg base CX j f fd ps sp) (h : j ≤ k) :
    FnOk P w K mg base CX k f fd ps sp := ⟨F.len, fun A outer s H args us vs Q E hr => F.run A outer s H args us vs Q E (hr.mono h)⟩
theorem FnOk.imp {P : Program} {w : World} {K : PySem.W.Frag} {mg : Str → Option Value} {base : Heap} {CX : CXT} {k : Nat} {f : Addr} {fd : FuncData} {ps : List Str} {sp sp' : Sp} (F : FnOk P w K mg base CX k f fd ps sp)
    (h : ∀ vs H Q E, sp' vs H Q E → sp vs H Q E) : FnOk P w K mg base CX k f fd ps sp' :=
  ⟨fun vs H Q E q => F.len vs H Q E (h _ _ _ _ q), fun A outer s H args us vs Q E hr he hb hv hs => F.run A outer s H args us vs Q E hr he hb hv (h _ _ _ _ hs)⟩
section
variable {X : Cx} {pins : List (Addr × Obj)} {σ : St} {H : Hp} {s s' : Shared}
theorem Inv.env0 (I : Inv X pins σ H s) : Env0 X.prog X.w X.K X.mg X.base X.A X.stack s H :=
  ⟨I.ok.frames, I.ok.mod, I.bs, Nat.le_trans I.ok.bsz I.sz, I.stack, I.stkFree, I.hok, I.bare⟩
theorem Inv.after {Q : VK} {u : Value} (I : Inv X pins σ H s) (h : CE X.stack X.prog X.w H s Q u s') : EP X pins σ Q u s' := by
  obtain ⟨v, H', os, bare, un, hok, r, q⟩ := h
  obtain ⟨hh, g, d, t, os'⟩ := s'
  obtain rfl : os' = s.os := os
  exact ⟨v, H', I.call (h' := hh) (g' := g) (d' := d) (t' := t) (ch := []) un hok bare (fun b z => absurd z (by simp)), r, q⟩
end
def tCall (sp : Sp) (dvs : List V) (E : XK) (t : TA) : TE := fun σ H Q => t σ H fun vs H1 => sp (vs ++ dvs) H1 Q E
def Binds (K : PySem.W.Frag) (fd : FuncData) (ps : List Str) (ds : List Value) : Prop :=
  ∀ (s : Shared) (us : List Value), K.In s.heap → (us ++ ds).length = ps.length → BindsTo s fd ⟨us, []⟩ (ps.zip (us ++ ds))
theorem Binds.all {K : PySem.W.Frag} {fd : FuncData} {ps : List Str} (h : ∀ us : List Value, us.length = ps.length → bindArgs fd ⟨us, []⟩ = pure (ps.zip us)) : Binds K fd ps [] := fun s us _ hl => by
  rw [List.append_nil] at hl ⊢
  exact .of_eq (h us hl)
def Passes (CX : CXT) (X : Cx) (E : XK) : Prop := ∀ (pins : List (Addr × Obj)) (σ : St) (H : Hp) (s : Shared) (e : Value) (s' : Shared), Inv X pins σ H s → CX X.stack H s E e s' → X.xe e s'
section
variable {X : Cx} {CX : CXT} {k : Nat} {f C : Addr} {fd : FuncData} {ps : List Str} {sp : Sp} {dvs : List V} {ds : List Value} {E : XK} {x m : Str} {p pos apos : Pos} {e o : Expr} {es : List Expr} {ta : TE} {t : TA}
theorem run_fn {pins : List (Addr × Obj)} {σ : St} {H : Hp} {s : Shared} {Q : VK} {us : List Value} {vs : List V} (F : FnOk X.prog X.w X.K X.mg X.base CX k f fd ps sp) (hr : Room k X.A) (hb : Binds X.K fd ps ds) (hd : Vals dvs ds) (hx : Passes CX X E)
    (I : Inv X pins σ H s) (r : Vals vs us) (h : sp (vs ++ dvs) H Q E) : wpAny (model X.prog X.w) X.A (call (.ref f) us) (EP X pins σ Q) X.xe s := by
  have r2 : Vals (vs ++ dvs) (us ++ ds) := r.append hd
  have hl : (us ++ ds).length = ps.length := by rw [← r2.length]; exact F.len _ _ _ _ h
  refine wpAny_call (codeAny_mono (F.run X.A X.stack s H ⟨us, []⟩ (us ++ ds) (vs ++ dvs) Q E hr I.env0 (hb s us I.kIn hl) r2 h) fun r s' hq => ?_)
  cases r with
  | error e => exact hx pins σ H s e s' I hq
  | ok fl =>
    cases fl with
    | ret u => exact I.after hq
    | next => exact False.elim hq
    | brk => exact False.elim hq
    | cont => exact False.elim hq
theorem pe_call (F : FnOk X.prog X.w X.K X.mg X.base CX k f fd ps sp) (hr : Room k X.A) (hg : Gl X x) (hm : X.mg x = some (.ref f)) (hk : PySem.W.keepIn X.K (.ref f) = true) (hb : Binds X.K fd ps ds) (hd : Vals dvs ds) (hx : Passes CX X E)
    (ha : PA X (e :: es) t) (hdb : (x == ("__debug__" : Str)) = false := by decide) (he : starEach (e :: es) X.env = (false, eval e X.env) :: starEach es X.env := by rfl) (hpl : (backTo pos (starEach es X.env)).any (·.1) = false := by rfl) :
    PE X (.Call (.Name x p) (e :: es) [] pos) (tCall sp dvs E t) := by
  intro pins s σ H Q I h
  refine wpAny_Call_Name_kw (ld_glob I hg hm ?_ hdb)
  refine PySem.W.callWith_K (h₀ := X.base) I.ok.mod.kin hk (thn (ha pos pins s σ H _ I h) fun us s1 ⟨vs, H1, I1, r, q⟩ => ⟨I1.kIn, ?_⟩) he hpl
  exact run_fn F hr hb hd hx I1 r q
structure Mk (K : PySem.W.Frag) (C f : Addr) : Prop where
  makes : PySem.W.makesIn K C = true
  init : PySem.W.findIn K (.ref C) "__init__" = some (some (.ref f))
  fn : PySem.W.isFn K (.ref f) = true
  kp : PySem.W.keepIn K (.ref C) = true
end
section
variable {X : Cx} {CX : CXT} {k : Nat} {f C : Addr} {fd : FuncData} {ps ks : List Str} {sp : Sp} {E : XK} {x m : Str} {p pos apos kpos : Pos} {e o : Expr} {es : List Expr} {kws : List Keyword} {te ta : TE} {t tk : TA} {nm : Option Str}
structure KBinds (K : PySem.W.Frag) (fd : FuncData) (ps ks : List Str) (g : List Value → List Value → List Value) (gV : List V → List V → List V) : Prop where
  to : ∀ (s : Shared) (us ws : List Value), K.In s.heap → (g us ws).length = ps.length → BindsTo s fd ⟨us, ks.zip ws⟩ (ps.zip (g us ws))
  rel : ∀ {vs : List V} {us : List Value} {zs : List V} {ws : List Value}, Vals vs us → Vals zs ws → Vals (gV vs zs) (g us ws)
variable {g : List Value → List Value → List Value} {gV : List V → List V → List V}
end
structure FnScope (N P : List Str) (sc : Scope) : Prop where
  kind : sc.kind = .function
  co : sc.isCoroutine = false
  gen : sc.isGenerator = false
  nd : N.Nodup
  pre : N.take P.length = P
  par : ∀ x ∈ P, sc.names.lookup x = some .local ∨ sc.names.lookup x = some .cell
  nofree : ∀ y ∈ sc.names, y.2 ≠ .free
theorem bindL_out {kindOf : Str → Option NameKind} {x : Str} : ∀ {binds : List (Str × Value)} {m : Str → Option Value}, (∀ v, (x, v) ∉ binds) → bindL kindOf binds m x = m x
  | [], _, _ => rfl
  | (n, v) :: r, m, h => by
    unfold bindL
    rw [bindL_out fun w hw => h w (List.mem_cons_of_mem _ hw)]
    split
    · have : x ≠ n := by rintro rfl; exact h v List.mem_cons_self
      simp [this]
    · rfl
theorem bindC_out {kindOf : Str → Option NameKind} {x : Str} : ∀ {binds : List (Str × Value)} {m : Str → Option Value}, (∀ v, (x, v) ∉ binds) → bindC kindOf binds m x = m x
  | [], _, _ => rfl
  | (n, v) :: r, m, h => by
    unfold bindC
    rw [bindC_out fun w hw => h w (List.mem_cons_of_mem _ hw)]
    split
    · rfl
    · have : x ≠ n := by rintro rfl; exact h v List.mem_cons_self
      simp [this]
theorem bindL_get {kindOf : Str → Option NameKind} {x : Str} {v : Value} : ∀ {P : List Str} {vs : List Value} {i : Nat} {m : Str → Option Value}, P.Nodup → P[i]? = some x → vs[i]? = some v → kindOf x = some .local →
    bindL kindOf (P.zip vs) m x = some v
  | [], _, _, _, _, h, _, _ => by simp at h
  | _ :: _, [], _, _, _, _, h, _ => by simp at h
  | p :: P, w :: vs, 0, m, nd, h1, h2, hk => by
    simp at h1 h2; subst h1; subst h2
    show bindL kindOf ((p, w) :: P.zip vs) m p = _
    unfold bindL
    rw [bindL_out fun v hv => (List.nodup_cons.mp nd).1 (List.of_mem_zip hv).1, if_pos hk]
    simp
  | p :: P, w :: vs, i + 1, m, nd, h1, h2, hk => by
    show bindL kindOf ((p, w) :: P.zip vs) m x = _
    unfold bindL
    exact bindL_get (i := i) (List.nodup_cons.mp nd).2 (by simpa using h1) (by simpa using h2) hk
theorem bindC_get {kindOf : Str → Option NameKind} {x : Str} {v : Value} : ∀ {P : List Str} {vs : List Value} {i : Nat} {m : Str → Option Value}, P.Nodup → P[i]? = some x → vs[i]? = some v → kindOf x ≠ some .local →
    bindC kindOf (P.zip vs) m x = some v
  | [], _, _, _, _, h, _, _ => by simp at h
  | _ :: _, [], _, _, _, _, h, _ => by simp at h
  | p :: P, w :: vs, 0, m, nd, h1, h2, hk => by
    simp at h1 h2; subst h1; subst h2
    show bindC kindOf ((p, w) :: P.zip vs) m p = _
    unfold bindC
    rw [bindC_out fun v hv => (List.nodup_cons.mp nd).1 (List.of_mem_zip hv).1, if_neg hk]
    simp
  | p :: P, w :: vs, i + 1, m, nd, h1, h2, hk => by
    show bindC kindOf ((p, w) :: P.zip vs) m x = _
    unfold bindC
    exact bindC_get (i := i) (List.nodup_cons.mp nd).2 (by simpa using h1) (by simpa using h2) hk
def start (N : List Str) (vs : List V) : St := vs.map some ++ List.replicate (N.length - vs.length) none
def cxOf (CX : CXT) (P : Program) (w : World) (K : PySem.W.Frag) (mg : Str → Option Value) (base : Heap) (N : List Str) (qual : Str) (scope : Scope) (f : Addr) (cd : Value) (A : Around) (outer : List Env) (s : Shared) (H : Hp) (E : XK) : Cx where
  prog := P
  w := w
  K := K
  mg := mg
  base := base
  A := A.deeper (envOfC qual scope s.heap.objs.size f cd)
  N := N
  s₀ := s
  H₀ := H
  env := envOfC qual scope s.heap.objs.size f cd
  outer := outer
  stack := envOfC qual scope s.heap.objs.size f cd :: outer
  ex := []
  calm := true
  fn := fun _ => true
  pn := []
  xe := fun e s' => wpAny (model P w) (A.deeper (envOfC qual scope s.heap.objs.size f cd)) (leaving (envOfC qual scope s.heap.objs.size f cd) e) (fun _ s'' => CX outer H s E e s'') (fun e' s'' => CX outer H s E e' s'') s'
theorem cell_has {sc : Scope} {n : Nat} {x : Str} (h : sc.names.lookup x = some .cell) : ∃ c, (cellsFrom n sc.names []).lookup x = some c := by
  have q := PySem.W.cellsFrom_some sc.names n [] (.inl h)
  exact Option.isSome_iff_exists.mp q
theorem inv_start {CX : CXT} {P : Program} {w : World} {K : PySem.W.Frag} {mg : Str → Option Value} {base : Heap} {N ps : List Str} {qual : Str} {scope : Scope} {f : Addr} {cd : Value} {A : Around} {outer : List Env} {s s1 : Shared} {H : Hp} {E : XK} {us : List Value} {vs : List V}
    (S : FnScope N ps scope) (hd : A.handled = none) (e0 : Env0 P w K mg base A outer s H) (hl : vs.length = ps.length) (r : Vals vs us)
    (x : InCallC s s.heap.objs.size (bindL (envOfC qual scope s.heap.objs.size f cd).kindOf (ps.zip us) fun _ => none) (cellsFrom (s.heap.objs.size + 1) scope.names []) (bindC (envOfC qual scope s.heap.objs.size f cd).kindOf (ps.zip us) fun _ => none) s1) :
    Inv (cxOf CX P w K mg base N qual scope f cd A outer s H E) [] (start N vs) H s1 := by
  have hpl : ps.length ≤ N.length := by have := congrArg List.length S.pre; rw [List.length_take] at this; omega
  obtain ⟨h1, tk, rfl, hk⟩ := x.done
  have noA : ∀ b : Addr, b ∉ (cxOf CX P w K mg base N qual scope f cd A outer s H E).ex := fun b z => absurd (show b ∈ ([] : List Addr) from z) (by simp)
  refine ⟨⟨e0.mod, S.kind, rfl, rfl, Nat.le_refl _, fun y z c h1 h2 => ?_, fun y hy => ?_, fun y c _ h => ?_, fun _ => hd, Around.frames_deeper e0.frames, .inr ⟨rfl, rfl⟩, fun b z => absurd z (noA b), e0.bs, e0.bsz, fun b _ _ => noA b, fun b z => absurd z (noA b), e0.funs, e0.frf⟩,
    rfl, e0.bare, Un.kept hk, ⟨_, x.toInCall.ns, fun i y v h1 h2 h3 => ?_⟩, fun y c h => ⟨_, x.cell y c h⟩, e0.hok.fresh (Nat.le_refl _), fun y c h => ?_, fun p hp => absurd (show p ∈ ([] : List (Addr × Obj)) from hp) (by simp), e0.hok.kept hk, ?_⟩
  · exact name_of_addr x.apart (PySem.mem_of_lookup h1) (PySem.mem_of_lookup h2)
  · have hy : scope.names.lookup y = some .cell ∨ scope.names.lookup y = some .free := hy
    rcases hy with hy | hy
    · exact cell_has hy
    · exact absurd rfl (S.nofree _ (PySem.mem_of_lookup hy))
  · exact Nat.le_of_lt (x.above y c (PySem.mem_of_lookup h))
  · have hi : i < vs.length := by
      unfold start at h2
      by_cases hi : i < vs.length
      · exact hi
      · rw [List.getElem?_append_right (by simpa using hi)] at h2
        rw [List.getElem?_replicate] at h2
        split at h2 <;> cases h2
    have ha : vs[i]? = some v := by
      unfold start at h2
      rw [List.getElem?_append_left (by simpa using hi), List.getElem?_map] at h2
      cases e : vs[i]? with
      | none => rw [e] at h2; cases h2
      | some a => rw [e] at h2; cases h2; rfl
    obtain ⟨u, hu, rv⟩ := r.get ha
    have hp : ps[i]? = some y := by
      rw [← S.pre, List.getElem?_take_of_lt (by omega)]; exact h1
    have ndP : ps.Nodup := by rw [← S.pre]; exact S.nd.sublist (List.take_sublist _ _)
    refine ⟨u, rv, ?_⟩
    rcases S.par y (List.mem_of_getElem? hp) with k | k
    · exact .inl ⟨k, bindL_get ndP hp hu k⟩
    · obtain ⟨c, e⟩ := cell_has (n := s.heap.objs.size + 1) k
      refine .inr ⟨.inl k, c, e, ?_⟩
      have q := x.cell y c e
      rw [bindC_get ndP hp hu (by show scope.names.lookup y ≠ _; rw [k]; decide)] at q
      exact q
  · exact e0.hok.fresh (Nat.le_of_lt (x.above y c (PySem.mem_of_lookup h)))
  · unfold start
    show _ = N.length
    rw [List.length_append, List.length_map, List.length_replicate]
    omega
theorem fn_of {CX : CXT} {P : Program} {w : World} {K : PySem.W.Frag} {mg : Str → Option Value} {base : Heap} {k : Nat} {f : Addr} {name qual : Str} {params : Arguments} {body : List Stmt} {scope : Scope} {dV kV doc pm cdv ct oc : Value} {an od : Option Addr}
    {osl : Array (Option Value)} {N ps : List Str} {sp : Sp} (lk : K.lookup f = some ⟨oc, od, .func (PySem.W.fnOf name qual params body scope dV kV doc pm an cdv ct), osl⟩) (hcd : PySem.W.codeIn K cdv qual = true) (S : FnScope N ps scope)
    (len : ∀ vs H Q E, sp vs H Q E → vs.length = ps.length)
    (hbody : ∀ (A : Around) (outer : List Env) (s : Shared) (H : Hp) (vs : List V) (Q : VK) (E : XK), Room k (A.deeper (envOfC qual scope s.heap.objs.size f cdv)) → sp vs H Q E →
      ∃ t, PSs (cxOf CX P w K mg base N qual scope f cdv A outer s H E) body t ∧ t { nx := fun _ H' => Q .non H', rt := Q } (start N vs) H) :
    FnOk P w K mg base CX (k + 1) f (PySem.W.fnOf name qual params body scope dV kV doc pm an cdv ct) ps sp := by
  refine ⟨len, fun A outer s H args us vs Q E hr e0 hb r hsp => ?_⟩
  have hl := len _ _ _ _ hsp
  have KX : K.In s.heap := e0.mod.kin.keeps fun b o e => (e0.bs b o e).1
  have lim : s.heap.NoLimit := e0.mod.nolimit.keeps fun b o e => (e0.bs b o e).1
  have hkind : ∀ y ∈ ps.zip us, scope.names.lookup y.1 = some .local ∨ (scope.names.lookup y.1 = some .cell ∧ ((cellsFrom (s.heap.objs.size + 1) scope.names []).lookup y.1).isSome = true) := fun ⟨n, v⟩ hy => by
    rcases S.par n (List.of_mem_zip hy).1 with q | q
    · exact .inl q
    · exact .inr ⟨q, PySem.W.cellsFrom_some _ _ _ (.inl q)⟩
  refine codeAny_call_function hr.depth (KX _ _ lk) rfl S.co S.gen rfl (PySem.W.codeRec_of KX hcd) (hb _ _ _ _ ?_)
  refine wpAny_newFunctionEnv_cells S.kind hkind fun env he s1 x => ?_
  subst he
  refine ⟨lim.keeps x.toInCall.keep, codeAny_func ?_⟩
  obtain ⟨t, ht, hq⟩ := hbody A outer s H vs Q E (hr.deeper _) hsp
  have I : Inv (cxOf CX P w K mg base N qual scope f cdv A outer s H E) [] (start N vs) H s1 := inv_start S hr.hd e0 hl r x
  refine wpAny_mono (ht [] s1 (start N vs) H _ I hq) (fun fl s' hs => ?_) fun e s' hs => hs
  have fin : ∀ {σ' : St} {H' : Hp} {v : V} {u : Value}, Inv (cxOf CX P w K mg base N qual scope f cdv A outer s H E) [] σ' H' s' → RelV v u → Q v H' → CE outer P w H s Q u s' :=
    fun {σ' H' v u} J rv q => ⟨v, H', J.os, J.bare, J.base, J.hok, rv, q⟩
  cases fl with
  | ret u =>
    obtain ⟨v, σ', H', J, rv, q⟩ := hs
    exact fin J rv q
  | next =>
    obtain ⟨σ', H', J, q⟩ := hs
    exact fin (v := V.non) (u := Value.none) J rfl q
  | brk =>
    obtain ⟨_, _, _, q⟩ := hs
    exact False.elim q
  | cont =>
    obtain ⟨_, _, _, q⟩ := hs
    exact False.elim q
end L2
namespace L2
open PySem PySem.Spec PyProof.Rows
section
variable {X : Cx} {x : Str} {p pos : Pos} {e : Expr} {es : List Expr} {t : TA} {id T : String} {r : List V → Hp → VK → Prop}
def tCB (r : List V → Hp → VK → Prop) (t : TA) : TE := fun σ H Q => t σ H fun vs H1 => r vs H1 Q
theorem pe_callB (hc : CallR X (.builtin id) r) (hg : Gl X x) (hm : X.mg x = none) (hv : bootBuiltins x = some (.builtin id)) (ha : PA X (e :: es) t) (hn : x ≠ "__name__" := by decide) (hdb : (x == ("__debug__" : Str)) = false := by decide)
    (he : starEach (e :: es) X.env = (false, eval e X.env) :: starEach es X.env := by rfl) (hpl : (backTo pos (starEach es X.env)).any (·.1) = false := by rfl) : PE X (.Call (.Name x p) (e :: es) [] pos) (tCB r t) := by
  intro pins s σ H Q I h
  refine wpAny_Call_Name_kw (ld_blt I hg hm hv ?_ hn hdb)
  exact PyProof.Rows.callWith_builtin1 (thn (ha pos pins s σ H _ I h) fun us s1 ⟨vs, H1, I1, r1, q1⟩ => hc pins s1 σ H1 vs us Q I1 r1 q1) he hpl
theorem pe_callTy (hc : CallR X (.type T) r) (hg : Gl X x) (hm : X.mg x = none) (hv : bootBuiltins x = some (.type T)) (ha : PA X (e :: es) t) (hn : x ≠ "__name__" := by decide) (hdb : (x == ("__debug__" : Str)) = false := by decide)
    (he : starEach (e :: es) X.env = (false, eval e X.env) :: starEach es X.env := by rfl) (hpl : (backTo pos (starEach es X.env)).any (·.1) = false := by rfl) : PE X (.Call (.Name x p) (e :: es) [] pos) (tCB r t) := by
  intro pins s σ H Q I h
  refine wpAny_Call_Name_kw (ld_blt I hg hm hv ?_ hn hdb)
  exact PyProof.Rows.callWith_type1 (thn (ha pos pins s σ H _ I h) fun us s1 ⟨vs, H1, I1, r1, q1⟩ => hc pins s1 σ H1 vs us Q I1 r1 q1) he hpl
end
end L2
namespace HT
open PySem PyProof.Rows
section
open PySem.SeqAt
open PySem.AutoSeq1 (wpAny_loadPart')
open PySem.MeetsSeq PySem.MeetsSeq2 PySem.MeetsSeq3
end
section
variable {prog : Program} {w : World} {A : Around} {E : Value → Shared → Prop} {s : Shared}
theorem cat_tup {t b : Addr} {vs ws : List Value} {Q : Value → Shared → Prop} (ht : IsTup s.heap t vs.toArray) (hb : IsTup s.heap b ws.toArray) (hv : vs ≠ [])
    (h1 : ws = [] → Q (.ref t) s) (h2 : ws ≠ [] → Q (.ref s.heap.objs.size) { s with heap := s.heap.push { cls := .type "tuple", data := .seq (vs ++ ws).toArray } })
    (hsz : vs.length + ws.length ≤ sizeLine) : wpAny (model prog w) A (binaryOp .Add (.ref t) (.ref b)) Q E s := by
  obtain ⟨⟨cls, dd, data, sl⟩, ho, hc, n, hd⟩ := id ht
  obtain ⟨⟨cls2, dd2, data2, sl2⟩, ho2, hc2, n2, hd2⟩ := id hb
  simp only at hc hd hc2 hd2
  subst hc hd hc2 hd2
  have e : vs.toArray ++ ws.toArray = (vs ++ ws).toArray := by simp
  by_cases hw : ws = []
  · exact concat_meets ⟨_, ho, rfl⟩ ⟨_, ho2, rfl⟩ noFill_tuple_add seq_tuple_add PySem.F.slot_tuple_add PySem.F.entry_tuple_add (PySem.F.args_tuple_add_2 _ _)
      (tuple_addW1 t b vs.toArray ws.toArray n n2 dd dd2 sl sl2 (by simpa using hv) (by simp [hw])) ⟨ho, ho2, h1 hw⟩
  · refine concat_meets ⟨_, ho, rfl⟩ ⟨_, ho2, rfl⟩ noFill_tuple_add seq_tuple_add PySem.F.slot_tuple_add PySem.F.entry_tuple_add (PySem.F.args_tuple_add_2 _ _)
      (tuple_addW2 t b vs.toArray ws.toArray n n2 dd dd2 sl sl2 (by simpa using hv) (by simpa using hw) (by rw [List.size_toArray, List.size_toArray]; exact hsz)) ⟨ho, ho2, ?_⟩
    rw [e]
    exact h2 hw
def sIx (n d : Nat) : Option Int → Nat
  | none => d
  | some v => if v < 0 then (v + (n : Int)).toNat else min v.toNat n
theorem sIx_nat (n d k : Nat) : sIx n d (some (k : Int)) = min k n := by
  show (if (k : Int) < 0 then ((k : Int) + (n : Int)).toNat else min (k : Int).toNat n) = min k n
  rw [if_neg (by omega), Int.toNat_natCast]
theorem sIx_le (n d : Nat) (hd : d ≤ n) (o : Option Int) : sIx n d o ≤ n := by
  cases o with
  | none => exact hd
  | some v =>
    show (if v < 0 then (v + (n : Int)).toNat else min v.toNat n) ≤ n
    by_cases hv : v < 0
    · rw [if_pos hv]; omega
    · rw [if_neg hv]; exact Nat.min_le_right _ _
theorem clip_eq (v : Int) (n d : Nat) : (if v < 0 then max (v + (n : Int)) 0 else min v (n : Int)) = ((sIx n d (some v) : Nat) : Int) := by
  show (if v < 0 then max (v + (n : Int)) 0 else min v (n : Int)) = (((if v < 0 then (v + (n : Int)).toNat else min v.toNat n) : Nat) : Int)
  by_cases hv : v < 0
  · simp only [if_pos hv]; omega
  · simp only [if_neg hv]; omega
theorem adjust_gen (lo hi : Option Int) (n : Nat) : Builtin.Slice.sliceAdjust lo hi 1 (n : Int) = (((sIx n 0 lo : Nat) : Int), ((sIx n n hi : Nat) : Int)) := by
  have h1 : ¬ ((1 : Int) < 0) := by omega
  unfold Builtin.Slice.sliceAdjust
  simp only [h1, if_false]
  refine Prod.ext ?_ ?_
  · cases lo with
    | none => rfl
    | some v => exact clip_eq v n 0
  · cases hi with
    | none => rfl
    | some v => exact clip_eq v n n
theorem places_gen (i j : Nat) : Builtin.Slice.slicePlaces (i : Int) (j : Int) 1 = j - i := by
  unfold Builtin.Slice.slicePlaces
  have h1 : (1 : Int) > 0 := by omega
  simp only [h1, if_true, Int.ediv_one]
  split <;> omega
theorem slicePart_ {v : Value} {o : Option Int} {Q : Option Int → Shared → Prop} (p : IsPart v o) (h : Q o s) : wpAny (model prog w) A (Builtin.Slice.slicePartIndex v) Q E s := by
  cases p with
  | none => exact slicePart_none h
  | int i t => exact slicePart_int h
theorem sliceApplied_gen {sl : Addr} {vl vu : Value} {lo hi : Option Int} {n : Nat} {Q : Int × Int × Nat → Shared → Prop} (hs : s.heap.IsSliceOf sl vl vu .none) (pl : IsPart vl lo) (pu : IsPart vu hi)
    (h : Q (((sIx n 0 lo : Nat) : Int), 1, sIx n n hi - sIx n 0 lo) s) : wpAny (model prog w) A (Builtin.Slice.sliceApplied (.ref sl) (pure (n : Int))) Q E s := by
  obtain ⟨os, hos, hcs, hds⟩ := id hs
  unfold Builtin.Slice.sliceApplied Builtin.Slice.sliceFields
  refine wpAny_bind (wpAny_bind (wpAny_field hos hds (x := vl) rfl (wpAny_bind (wpAny_field hos hds (x := vu) rfl (wpAny_bind (wpAny_field hos hds (x := .none) rfl (wpAny_pure ?_)))))))
  refine wpAny_bind (slicePart_none ?_)
  show wpAny _ _ (if ((1 : Int) == 0) = true then _ else _) _ _ s
  rw [if_neg (by decide)]
  refine wpAny_bind (slicePart_ pl (wpAny_bind (slicePart_ pu (wpAny_bind (wpAny_pure ?_)))))
  show wpAny _ _ (match Builtin.Slice.sliceAdjust lo hi 1 (n : Int) with | (lo, hi) => pure (lo, (1 : Int), Builtin.Slice.slicePlaces lo hi 1)) _ _ s
  rw [adjust_gen lo hi n]
  show wpAny _ _ (pure (((sIx n 0 lo : Nat) : Int), (1 : Int), Builtin.Slice.slicePlaces ((sIx n 0 lo : Nat) : Int) ((sIx n n hi : Nat) : Int) 1)) _ _ s
  rw [places_gen]
  exact wpAny_pure h
theorem pick_gen (xs : Array Value) (i k : Nat) : ((List.range k).filterMap fun (m : Nat) => xs[((i : Int) + (m : Int) * 1).toNat]?).toArray = ((xs.toList.drop i).take k).toArray := by
  have e : (fun (m : Nat) => xs[((i : Int) + (m : Int) * 1).toNat]?) = fun m => xs[i + m]? := by
    funext m
    have : ((i : Int) + (m : Int) * 1).toNat = i + m := by omega
    rw [this]
  rw [e]
  have := pick_run xs i k
  rw [List.filterMap_map] at this
  have e2 : ((fun x => xs[x]?) ∘ fun x => i + x) = fun m => xs[i + m]? := rfl
  rw [e2] at this
  rw [this]
theorem getItem_tuple_cut {t sl : Addr} {items : Array Value} {vl vu : Value} {lo hi : Option Int} {Q : Value → Shared → Prop} (ht : IsTup s.heap t items) (hs : s.heap.IsSliceOf sl vl vu .none) (pl : IsPart vl lo) (pu : IsPart vu hi)
    (hw : ¬ (sIx items.size 0 lo = 0 ∧ sIx items.size items.size hi = items.size))
    (h : Q (.ref s.heap.objs.size) { s with heap := s.heap.push { cls := .type "tuple", data := .seq ((items.toList.drop (sIx items.size 0 lo)).take (sIx items.size items.size hi - sIx items.size 0 lo)).toArray } })
    (hsz : items.size ≤ sizeLine) : wpAny (model prog w) A (getItem (.ref t) (.ref sl)) Q E s := by
  have htake : sizeOk (.seq ((items.toList.drop (sIx items.size 0 lo)).take (sIx items.size items.size hi - sIx items.size 0 lo)).toArray) := by
    show ((items.toList.drop (sIx items.size 0 lo)).take (sIx items.size items.size hi - sIx items.size 0 lo)).toArray.size ≤ sizeLine
    rw [List.size_toArray, List.length_take, List.length_drop, Array.length_toList]
    omega
  have hj : sIx items.size items.size hi ≤ items.size := sIx_le _ _ (Nat.le_refl _) hi
  obtain ⟨os, hos, hcs, hds⟩ := id hs
  have hTs : s.TypeIs (.ref sl) "slice" := ⟨os, hos, hcs⟩
  unfold getItem
  try with_reducible refine wpAny_holding ?_
  first | refine wpAny_bind (wpAny_pure ?_) | skip
  refine wpAny_bind (wpAny_sequenceKey ht.typeIs (by decide) ?_)
  refine wpAny_bind (wpAny_callSpecial?_slot (name := Str.ofString "__getitem__") ht.typeIs PyProof.Rows.slot_tuple_getitem
    (wpAny_call_entry PyProof.Rows.slot_tuple_getitem ht.typeIs entry_tuple_getitem ?_ (args_tuple_getitem _ _)))
  show wpAny _ _ (Builtin.Tuple.tupleItemsOf (.ref t) >>= _) _ _ s
  refine wpAny_bind (tupleItemsOf_ ht ?_)
  refine wpAny_bind (wpAny_typeOf hTs ?_)
  rw [if_pos (by decide)]
  refine wpAny_bind (sliceApplied_gen hs pl pu ?_)
  have hno : ¬ ((((sIx items.size 0 lo : Nat) : Int) == 0 && (1 : Int) == 1 && (sIx items.size items.size hi - sIx items.size 0 lo) == items.size) = true) := by
    intro q
    rw [Bool.and_eq_true, Bool.and_eq_true] at q
    have q1 : ((sIx items.size 0 lo : Nat) : Int) = 0 := eq_of_beq q.1.1
    have q2 : sIx items.size items.size hi - sIx items.size 0 lo = items.size := eq_of_beq q.2
    exact hw ⟨by omega, by omega⟩
  show wpAny _ _ (if (((sIx items.size 0 lo : Nat) : Int) == 0 && (1 : Int) == 1 && (sIx items.size items.size hi - sIx items.size 0 lo) == items.size) = true then _ else _) _ _ s
  rw [if_neg hno, pick_gen]
  first
    | exact wpAny_bind (m := Builtin.Tuple.tupleExact _) (wpAny_newObj_type (wpAny_pure ⟨_, rfl, wpAny_pure h⟩) htake)
    | exact wpAny_bind (m := Builtin.Tuple.tupleExact _) (wpAny_newObj_type (wpAny_bind (wpAny_pure (wpAny_pure ⟨_, rfl, wpAny_pure h⟩))) htake)
    | exact wpAny_bind (wpAny_bind (m := Builtin.Tuple.tupleExact _) (wpAny_newObj_type (wpAny_pure (wpAny_pure ⟨_, rfl, wpAny_pure h⟩)) htake))
    | exact wpAny_bind (wpAny_bind (m := Builtin.Tuple.tupleExact _) (wpAny_newObj_type (wpAny_pure ⟨_, rfl, wpAny_pure h⟩) htake))
end
end HT
namespace L2
open PySem PySem.Spec PyProof.Rows
abbrev TO := St → Hp → (Option Int → Hp → Prop) → Prop
def PO (X : Cx) (e : Option Expr) (t : TO) : Prop :=
  ∀ (pins : List (Addr × Obj)) (s : Shared) (σ : St) (H : Hp) (Q : Option Int → Hp → Prop), Inv X pins σ H s → t σ H Q →
    wpAny (model X.prog X.w) X.A (evalPart e X.env) (fun u s' => ∃ o H', Inv X pins σ H' s' ∧ IsPart u o ∧ Q o H') X.xe s
def tNoPart : TO := fun _ H Q => Q none H
def tPart (t : TE) : TO := fun σ H Q => t σ H fun x H1 => ∃ i, x = .int i ∧ Q (some i) H1
section
variable {X : Cx} {e : Expr} {te : TE} {lo hi : Option Expr} {tl th : TO} {pos p2 : Pos}
theorem po_none : PO X none tNoPart := by
  intro pins s σ H Q I h
  rw [evalPart_none]
  exact wpAny_pure ⟨none, H, I, .none, h⟩
theorem po_some (h : PE X e te) : PO X (some e) (tPart te) := by
  intro pins s σ H Q I hw
  rw [evalPart_some]
  refine thn (h pins s σ H _ I hw) fun u s1 ⟨x, H1, I1, r1, q1⟩ => ?_
  obtain ⟨i, rfl, q⟩ := q1
  obtain ⟨t, rfl⟩ := r1
  exact ⟨some i, H1, I1, .int i t, q⟩
def SlR (X : Cx) (r : V → Option Int → Option Int → Hp → VK → Prop) : Prop :=
  ∀ (pins : List (Addr × Obj)) (s : Shared) (σ : St) (H : Hp) (x : V) (v vl vu : Value) (lo hi : Option Int) (sl : Addr) (Q : VK), Inv X pins σ H s → RelV x v → s.heap.IsSliceOf sl vl vu .none → IsPart vl lo → IsPart vu hi → r x lo hi H Q →
    ∃ T id, typeLookup (.type T) "__getitem__" = pure (some (.builtin id)) ∧ s.TypeIs v T ∧ wpAny (model X.prog X.w) X.A (getItem v (.ref sl)) (EP X pins σ Q) X.xe s
theorem SlR.or {r r' : V → Option Int → Option Int → Hp → VK → Prop} (h : SlR X r) (h' : SlR X r') : SlR X (fun x lo hi H Q => r x lo hi H Q ∨ r' x lo hi H Q) := by
  intro pins s σ H x v vl vu lo hi sl Q I rx hs pl pu q
  rcases q with q | q
  · exact h pins s σ H x v vl vu lo hi sl Q I rx hs pl pu q
  · exact h' pins s σ H x v vl vu lo hi sl Q I rx hs pl pu q
def tSl (r : V → Option Int → Option Int → Hp → VK → Prop) (te : TE) (tl th : TO) : TE := fun σ H Q => te σ H fun x H1 => tl σ H1 fun l H2 => th σ H2 fun u H3 => r x l u H3 Q
theorem pe_slice {r : V → Option Int → Option Int → Hp → VK → Prop} (hr : SlR X r) (he : PE X e te) (hl : PO X lo tl) (hu : PO X hi th) : PE X (.Subscript e (.Slice lo hi none p2) pos) (tSl r te tl th) := by
  intro pins s σ H Q I h
  refine Subscript_ (thn (he pins s σ H _ I h) fun v s1 ⟨x, H1, I1, r1, q1⟩ => ?_)
  refine wpAny_Slice (thn (hl pins s1 σ H1 _ I1 q1) fun vl s2 ⟨l, H2, I2, pl, q2⟩ => thn (hu pins s2 σ H2 _ I2 q2) fun vu s3 ⟨u, H3, I3, pu, q3⟩ => ?_)
  rw [evalPart_none]
  refine wpAny_pure ?_
  have I4 : Inv X pins σ H3 { s3 with heap := s3.heap.push { cls := .type "slice", data := .fields #[vl, vu, .none] } } := I3.kept (t' := s3.toks) fun b ob q => Heap.get?_push_of_some _ q
  obtain ⟨T, id, hT, ht, hg⟩ := hr pins { s3 with heap := s3.heap.push { cls := .type "slice", data := .fields #[vl, vu, .none] } } σ H3 x v vl vu l u s3.heap.objs.size Q I4 r1 (Heap.IsSliceOf.new ..) pl pu q3
  show wpAny (model X.prog X.w) X.A (subscriptTail e (.Slice lo hi none p2) v (.ref s3.heap.objs.size)) (EP X pins σ Q) X.xe { s3 with heap := s3.heap.push { cls := .type "slice", data := .fields #[vl, vu, .none] } }
  exact tail_any (ops := [.ref s3.heap.objs.size, v]) ht hT hg (by with_unfolding_all rfl)
def cutV (xs : List V) (lo hi : Option Int) : List V := (xs.drop (HT.sIx xs.length 0 lo)).take (HT.sIx xs.length xs.length hi - HT.sIx xs.length 0 lo)
theorem cutV_length (xs : List V) (lo hi : Option Int) : (cutV xs lo hi).length ≤ xs.length := by
  unfold cutV
  rw [List.length_take, List.length_drop]
  omega
def rSlT (K : PySem.W.Frag) : V → Option Int → Option Int → Hp → VK → Prop := fun x lo hi H Q => ∃ a xs, x = .ref a ∧ SqT K H a xs ∧
  ¬ (HT.sIx xs.length 0 lo = 0 ∧ HT.sIx xs.length xs.length hi = xs.length) ∧ ∀ p, H p = none → Q (.ref p) (upd H p (.tup (cutV xs lo hi)))
theorem sl_tup : SlR X (rSlT X.K) := by
  intro pins s σ H x v vl vu lo hi sl Q I rx hs pl pu h
  obtain ⟨a, xs, rfl, hx, hw, q⟩ := h
  cases rx
  obtain ⟨its, r, ht, hz⟩ := I.tuple hx
  have hlen : its.toArray.size = xs.length := by rw [List.size_toArray]; exact r.length.symm
  refine ⟨"tuple", _, PyProof.Rows.slot_tuple_getitem.lookup, ht.typeIs, ?_⟩
  refine HT.getItem_tuple_cut ht hs pl pu (by rw [hlen]; exact hw) ?_ (by rw [hlen]; exact hz)
  rw [hlen]
  refine ⟨.ref s.heap.objs.size, _, I.laid (t' := s.toks) (o := .tup (cutV xs lo hi)) (fun b ob q => Heap.get?_push_of_some _ q) (Nat.le_refl _) ?_, rfl, q _ (I.hok.fresh (Nat.le_refl _))⟩
  exact ⟨Nat.le_trans (cutV_length xs lo hi) hz, _, (r.drop (HT.sIx xs.length 0 lo)).take (HT.sIx xs.length xs.length hi - HT.sIx xs.length 0 lo), IsTup.new _ _⟩
def rCatT (K : PySem.W.Frag) : R2 := fun x y H Q => ∃ a b xs ys, x = .ref a ∧ y = .ref b ∧ SqT K H a xs ∧ SqT K H b ys ∧ xs ≠ [] ∧ xs.length + ys.length ≤ sizeLine ∧
  (ys = [] → Q (.ref a) H) ∧ (ys ≠ [] → ∀ p, H p = none → Q (.ref p) (upd H p (.tup (xs ++ ys))))
theorem Vals.nil_iff {xs : List V} {us : List Value} (r : Vals xs us) : us = [] ↔ xs = [] := by
  cases r with
  | nil => simp
  | cons _ _ => simp
theorem op_catT : OpR X (binaryOp .Add) (rCatT X.K) := by
  intro pins s σ H x y v u Q I rx ry h
  obtain ⟨a, b, xs, ys, rfl, rfl, ha, hb, hx, hz, q1, q2⟩ := h
  cases rx
  cases ry
  obtain ⟨its, r1, p1, _⟩ := I.tuple ha
  obtain ⟨its2, r2, p2, _⟩ := I.tuple hb
  refine HT.cat_tup p1 p2 (fun z => hx (r1.nil_iff.mp z)) (fun z => ⟨.ref a, H, I, rfl, q1 (r2.nil_iff.mp z)⟩) (fun z => ?_) (by rw [← r1.length, ← r2.length]; exact hz)
  refine ⟨.ref s.heap.objs.size, _, I.laid (t' := s.toks) (o := .tup (xs ++ ys)) (fun b ob q => Heap.get?_push_of_some _ q) (Nat.le_refl _) ?_, rfl, q2 (fun w => z (r2.nil_iff.mpr w)) _ (I.hok.fresh (Nat.le_refl _))⟩
  exact ⟨by rw [List.length_append]; exact hz, _, r1.append r2, IsTup.new _ _⟩
end
end L2
namespace L2
open PySem PySem.Spec PyProof.Rows
def ixN (n : Nat) (i : Int) : Option Nat := if 0 ≤ i then (if i < n then some i.toNat else none) else if -(n : Int) ≤ i then some (i + n).toNat else none
def atI {α : Type} (xs : List α) (i : Int) : Option α := (ixN xs.length i).bind fun j => xs[j]?
theorem ixN_seq {n : Nat} {i : Int} {j : Nat} (h : ixN n i = some j) : seqIndex? i n = some j ∧ j < n ∧ -(n : Int) ≤ i ∧ i < n := by
  unfold ixN at h
  by_cases h0 : 0 ≤ i
  · rw [if_pos h0] at h
    by_cases h1 : i < n
    · rw [if_pos h1] at h
      have e : i.toNat = j := Option.some.inj h
      exact ⟨by rw [seqIndex_of h0 h1, e], by omega, by omega, h1⟩
    · rw [if_neg h1] at h; cases h
  · rw [if_neg h0] at h
    by_cases h1 : -(n : Int) ≤ i
    · rw [if_pos h1] at h
      have e : (i + n).toNat = j := Option.some.inj h
      exact ⟨by rw [seqIndex_neg (by omega) h1, e], by omega, h1, by omega⟩
    · rw [if_neg h1] at h; cases h
theorem atI_get {α : Type} {xs : List α} {i : Int} {v : α} (h : atI xs i = some v) : ∃ j, seqIndex? i xs.length = some j ∧ xs[j]? = some v ∧ j < xs.length ∧ -(xs.length : Int) ≤ i ∧ i < xs.length := by
  unfold atI at h
  cases e : ixN xs.length i with
  | none => rw [e] at h; cases h
  | some j =>
    rw [e] at h
    obtain ⟨h1, h2, h3, h4⟩ := ixN_seq e
    exact ⟨j, h1, h, h2, h3, h4⟩
theorem atI_nat {α : Type} {xs : List α} {j : Nat} {v : α} (h : xs[j]? = some v) : atI xs (j : Int) = some v := by
  have hj : j < xs.length := (List.getElem?_eq_some_iff.mp h).1
  have e : ixN xs.length (j : Int) = some j := by
    unfold ixN
    rw [if_pos (by omega), if_pos (by omega)]; simp
  unfold atI; rw [e]; exact h
def PlainIx (b : Expr) : Prop := ∀ o i, subscripted b false o i = operate [o, i] (getItem o i)
def IxR (X : Cx) (r : R2) : Prop :=
  ∀ (value slice : Expr) (pins : List (Addr × Obj)) (s : Shared) (σ : St) (H : Hp) (x y : V) (v u : Value) (Q : VK), Inv X pins σ H s → RelV x v → RelV y u → r x y H Q →
    subscripted slice false v u = operate [v, u] (getItem v u) → wpAny (model X.prog X.w) X.A (subscriptTail value slice v u) (EP X pins σ Q) X.xe s
def MtR (X : Cx) (id : String) (r : V → List V → Hp → VK → Prop) : Prop :=
  ∀ (pins : List (Addr × Obj)) (s : Shared) (σ : St) (H : Hp) (x : V) (xs : List V) (v : Value) (us : List Value) (Q : VK), Inv X pins σ H s → RelV x v → Vals xs us → r x xs H Q →
    wpAny (model X.prog X.w) X.A (call (.builtin id) (v :: us)) (EP X pins σ Q) X.xe s
section
variable {X : Cx} {a b : Expr} {ta tb : TE} {pos : Pos}
theorem IxR.or {r r' : R2} (h : IxR X r) (h' : IxR X r') : IxR X (fun x y H Q => r x y H Q ∨ r' x y H Q) := by
  intro value slice pins s σ H x y v u Q I rx ry q hs
  rcases q with q | q
  · exact h value slice pins s σ H x y v u Q I rx ry q hs
  · exact h' value slice pins s σ H x y v u Q I rx ry q hs
theorem MtR.or {id : String} {r r' : V → List V → Hp → VK → Prop} (h : MtR X id r) (h' : MtR X id r') : MtR X id (fun x xs H Q => r x xs H Q ∨ r' x xs H Q) := by
  intro pins s σ H x xs v us Q I rx rs q
  rcases q with q | q
  · exact h pins s σ H x xs v us Q I rx rs q
  · exact h' pins s σ H x xs v us Q I rx rs q
theorem pe_ix {r : R2} (hr : IxR X r) (ha : PE X a ta) (hb : PE X b tb) (hs : PlainIx b) : PE X (.Subscript a b pos) (tOp r ta tb) := by
  intro pins s σ H Q I h
  exact Subscript_ (binT ha hb I h fun v u s2 x y H2 I2 rx ry q => hr a b pins s2 σ H2 x y v u Q I2 rx ry q (hs _ _))
def rIxL (K : PySem.W.Frag) : R2 := fun x y H Q => ∃ p xs i v, x = .ref p ∧ y = .int i ∧ SqL K H p xs ∧ atI xs i = some v ∧ Q v H
def rIxT (K : PySem.W.Frag) : R2 := fun x y H Q => ∃ p xs i v, x = .ref p ∧ y = .int i ∧ SqT K H p xs ∧ atI xs i = some v ∧ Q v H
def rIxS : R2 := fun x y H Q => ∃ z i c, x = .str z ∧ y = .int i ∧ z.length ≤ sizeLine ∧ atI z.cps.toList i = some c ∧ Q (.str ⟨#[c]⟩) H
theorem ix_list : IxR X (rIxL X.K) := by
  intro value slice pins s σ H x y v u Q I rx ry h hs
  obtain ⟨p, xs, i, z, rfl, rfl, hq, he, q⟩ := h
  cases rx
  obtain ⟨t, rfl⟩ := ry
  obtain ⟨its, r, pl, hz⟩ := I.list hq
  obtain ⟨j, h1, h2, h3, h4, h5⟩ := atI_get he
  obtain ⟨w, ew, rw'⟩ := r.get h2
  have hl := r.length
  have hn := line63
  have fin : EP X pins σ Q w s := ⟨z, H, I, rw', q⟩
  by_cases h0 : 0 ≤ i
  · have hj : i.toNat = j := by
      rw [seqIndex_of h0 h5] at h1
      exact Option.some.inj h1
    exact item_listR pl.isList h0 (by omega) (by rw [hj]; simpa using ew) fin hs
  · have hj : (i + (its.toArray.size : Int)).toNat = j := by
      rw [seqIndex_neg (by omega) h4] at h1
      rw [List.size_toArray, ← hl]
      exact Option.some.inj h1
    exact subscriptTail_builtinR (x := w) pl.isList.typeIs slot_list_getitem.lookup
      (wpAny_getItem_list_neg (Q := fun r s' => r = w ∧ EP X pins σ Q r s') pl.isList (by omega) (by rw [List.size_toArray] <;> omega) (by omega) (by rw [hj]; simpa using ew) ⟨rfl, fin⟩) hs
theorem ix_tup : IxR X (rIxT X.K) := by
  intro value slice pins s σ H x y v u Q I rx ry h hs
  obtain ⟨p, xs, i, z, rfl, rfl, hq, he, q⟩ := h
  cases rx
  obtain ⟨t, rfl⟩ := ry
  obtain ⟨its, r, pl, hz⟩ := I.tuple hq
  obtain ⟨j, h1, h2, h3, h4, h5⟩ := atI_get he
  obtain ⟨w, ew, rw'⟩ := r.get h2
  have hl := r.length
  have hn := line63
  have fin : EP X pins σ Q w s := ⟨z, H, I, rw', q⟩
  exact subscriptTail_builtinR (x := w) pl.typeIs slot_tuple_getitem.lookup
    (getItem_tuple (j := j) (Q := fun r s' => r = w ∧ EP X pins σ Q r s') pl (by omega) (by omega) (by rw [List.size_toArray, ← hl]; exact h1) (by simpa using ew) ⟨rfl, fin⟩) hs
theorem ix_str : IxR X rIxS := by
  intro value slice pins s σ H x y v u Q I rx ry h hs
  obtain ⟨z, i, c, rfl, rfl, hz, he, q⟩ := h
  obtain ⟨t, rfl⟩ := rx
  obtain ⟨t', rfl⟩ := ry
  obtain ⟨j, h1, h2, h3, h4, h5⟩ := atI_get he
  have hl : z.cps.toList.length = z.length := by simp [Str.length]
  rw [hl] at h1 h4 h5
  have hn := line63
  exact tail_any (typeIs_str s z t) slot_str_getitem.lookup (getItem_str (c := c) (by
    have e1 : decide (i < -(2 ^ 63 : Int)) = false := decide_eq_false (by omega)
    have e2 : decide (i ≥ 2 ^ 63) = false := decide_eq_false (by omega)
    rw [e1, e2, Bool.or_false]) (by rw [h1]; simpa using h2) ⟨.str ⟨#[c]⟩, H, I.tok _, ⟨_, rfl⟩, q⟩) hs
def rIx (K : PySem.W.Frag) : R2 := fun x y H Q => rIxL K x y H Q ∨ rIxT K x y H Q ∨ rIxS x y H Q
theorem ix_seq : IxR X (rIx X.K) := ix_list.or (ix_tup.or ix_str)
theorem mapSeq_set (its : List Value) (n j : Nat) (u : Value) : Obj.mapSeq (·.setIfInBounds j u) { cls := .type "list", data := .seq its.toArray n } = { cls := .type "list", data := .seq (its.set j u).toArray n } := by
  simp [Obj.mapSeq]
theorem Inv.lst {pins : List (Addr × Obj)} {σ : St} {H : Hp} {s : Shared} {p : Addr} {xs : List V} (I : Inv X pins σ H s) (h : H p = some (.lst xs)) :
    ∃ (its : List Value) (n : Nat), Vals xs its ∧ s.heap.get? p = some { cls := .type "list", data := .seq its.toArray n } ∧ xs.length ≤ sizeLine := by
  obtain ⟨z, its, n, r, e⟩ := I.hok p _ h
  exact ⟨its, n, r, e, z⟩
theorem Inv.lstUpd {pins : List (Addr × Obj)} {σ : St} {H : Hp} {s : Shared} {p : Addr} {xs ys : List V} {its its' : List Value} {n n' : Nat} {f : Obj → Obj} (I : Inv X pins σ H s) (h : H p = some (.lst xs))
    (ho : s.heap.get? p = some { cls := .type "list", data := .seq its.toArray n }) (hf : f { cls := .type "list", data := .seq its.toArray n } = { cls := .type "list", data := .seq its'.toArray n' }) (r : Vals ys its') (hz : ys.length ≤ sizeLine) (t : Nat) :
    Inv X pins σ (upd H p (.lst ys)) { s with heap := s.heap.update p f, toks := t } := by
  have e : (s.heap.update p f).get? p = some { cls := .type "list", data := .seq its'.toArray n' } := by
    rw [Heap.get?_update_self f ho (by rw [hf] <;> rfl), hf]
  refine I.write (x := p) (e := p) (by rw [h]; trivial) (.inl rfl) (fun b u hb q => (Heap.get?_update_other _ _ (Ne.symm hb)).trans q) ⟨_, e⟩ ?_
  exact ⟨hz, its', n', r, e⟩
def rSetL : V → V → V → Hp → (Hp → Prop) → Prop := fun o i v H Q => ∃ p xs k j, o = .ref p ∧ i = .int k ∧ H p = some (.lst xs) ∧ ixN xs.length k = some j ∧ Q (upd H p (.lst (xs.set j v)))
theorem set_list : PSet X rSetL := by
  intro pins s σ H o i v ov iv u Q I ro ri rv h
  obtain ⟨p, xs, k, j, rfl, rfl, hp, hj, q⟩ := h
  cases ro
  obtain ⟨t, rfl⟩ := ri
  obtain ⟨its, n, r, ho, hz⟩ := I.lst hp
  obtain ⟨h1, h2, h3, h4⟩ := ixN_seq hj
  have hl := r.length
  have hn := line63
  have I' : Inv X pins σ (upd H p (.lst (xs.set j v))) { s with heap := s.heap.update p (Obj.mapSeq (·.setIfInBounds j u)) } :=
    I.lstUpd hp ho (mapSeq_set its n j u) (r.set rv j) (by rw [List.length_set]; exact hz) s.toks
  by_cases h0 : 0 ≤ k
  · have hk : k.toNat = j := by
      rw [seqIndex_of h0 h4] at h1
      exact Option.some.inj h1
    exact PySem.W.ki_setAt ho h0 (by omega) (by rw [List.size_toArray, ← hl]; exact h4) (by rw [hk]; exact ⟨_, I', q⟩)
  · have hk : (k + (its.toArray.size : Int)).toNat = j := by
      rw [seqIndex_neg (by omega) h3] at h1
      rw [List.size_toArray, ← hl]
      exact Option.some.inj h1
    exact PySem.W.ki_setBack ho (by omega) (by rw [List.size_toArray, ← hl]; exact h3) (by omega) (by rw [hk]; exact ⟨_, I', q⟩)
theorem slice_bounds (lo hi : Option Int) (n : Nat) : (sliceBounds lo hi none n).1 = ((HT.sIx n 0 lo : Nat) : Int) ∧ (sliceBounds lo hi none n).2.1 = ((HT.sIx n n hi : Nat) : Int) ∧ (sliceBounds lo hi none n).2.2 = 1 := by
  refine ⟨?_, ?_, rfl⟩
  · cases lo with
    | none => simp [sliceBounds, HT.sIx]
    | some i =>
      simp only [sliceBounds, HT.sIx, Option.getD_none, show (1 : Int) > 0 by decide, if_true]
      by_cases h : i < 0
      · simp only [h, if_true] <;> omega
      · simp only [h, if_false] <;> omega
  · cases hi with
    | none => simp [sliceBounds, HT.sIx]
    | some i =>
      simp only [sliceBounds, HT.sIx, Option.getD_none, show (1 : Int) > 0 by decide, if_true]
      by_cases h : i < 0
      · simp only [h, if_true] <;> omega
      · simp only [h, if_false] <;> omega
theorem slicePick_cut (its : List Value) (lo hi : Option Int) : slicePick its.toArray lo hi none = ((its.drop (HT.sIx its.length 0 lo)).take (HT.sIx its.length its.length hi - HT.sIx its.length 0 lo)).toArray := by
  obtain ⟨h1, h2, h3⟩ := slice_bounds lo hi its.toArray.size
  unfold slicePick
  rw [h1, h2, h3]
  simp only [sliceRange_one, pick_run, List.size_toArray] <;> rfl
def rSlL (K : PySem.W.Frag) : V → Option Int → Option Int → Hp → VK → Prop := fun x lo hi H Q => ∃ a xs, x = .ref a ∧ SqL K H a xs ∧ ∀ p, H p = none → Q (.ref p) (upd H p (.lst (cutV xs lo hi)))
theorem sl_list : SlR X (rSlL X.K) := by
  intro pins s σ H x v vl vu lo hi sl Q I rx hs pl pu h
  obtain ⟨a, xs, rfl, hx, q⟩ := h
  cases rx
  obtain ⟨its, r, ht, hz⟩ := I.list hx
  have hlen := r.length
  refine ⟨"list", _, slot_list_getitem.lookup, ht.isList.typeIs, ?_⟩
  refine wpAny_getItem_list_slice ht.isList hs pl pu .none (by simp) ?_ (by rw [List.size_toArray] <;> omega)
  rw [slicePick_cut, ← hlen]
  refine ⟨.ref s.heap.objs.size, _, I.laid (t' := s.toks) (o := .lst (cutV xs lo hi)) (fun b ob q => Heap.get?_push_of_some _ q) (Nat.le_refl _) ?_, rfl, q _ (I.hok.fresh (Nat.le_refl _))⟩
  exact ⟨Nat.le_trans (cutV_length xs lo hi) hz, _, 0, (r.drop (HT.sIx xs.length 0 lo)).take (HT.sIx xs.length xs.length hi - HT.sIx xs.length 0 lo), Heap.get?_push_size _ rfl⟩
def flatV : V → Bool
  | .non => true
  | .bl _ => true
  | .int _ => true
  | .str _ => true
  | _ => false
def eqV : V → V → Bool
  | .non, .non => true
  | .bl a, .bl b => a == b
  | .bl a, .int b => (if a then 1 else 0) == b
  | .int a, .bl b => a == (if b then 1 else 0)
  | .int a, .int b => a == b
  | .str a, .str b => a == b
  | _, _ => false
theorem eqAt_V {A : Around} {s : Shared} {y x : V} {u v : Value} (ry : RelV y u) (rx : RelV x v) (fy : flatV y = true) (fx : flatV x = true) : SeqAt.EqAt A s u v (eqV y x) := by
  cases y with
  | non =>
    cases ry
    cases x with
    | non => cases rx; exact SeqAt.EqAt.same _
    | bl b => cases rx; exact SeqAt.EqAt.none_bool b
    | int b => obtain ⟨t, rfl⟩ := rx; exact SeqAt.EqAt.none_int b t
    | str b => obtain ⟨t, rfl⟩ := rx; exact SeqAt.EqAt.none_str b t
    | _ => exact absurd (show false = true from fx) Bool.false_ne_true
  | bl a =>
    cases ry
    cases x with
    | non => cases rx; exact SeqAt.EqAt.bool_none a
    | bl b => cases rx; exact SeqAt.EqAt.bool_bool a b
    | int b => obtain ⟨t, rfl⟩ := rx; exact SeqAt.EqAt.bool_int a b t
    | str b => obtain ⟨t, rfl⟩ := rx; exact SeqAt.EqAt.bool_str a b t
    | _ => exact absurd (show false = true from fx) Bool.false_ne_true
  | int a =>
    obtain ⟨t', rfl⟩ := ry
    cases x with
    | non => cases rx; exact SeqAt.EqAt.int_none a t'
    | bl b => cases rx; exact SeqAt.EqAt.int_bool a t' b
    | int b => obtain ⟨t, rfl⟩ := rx; exact SeqAt.EqAt.int_int a t' b t
    | str b => obtain ⟨t, rfl⟩ := rx; exact SeqAt.EqAt.int_str a t' b t
    | _ => exact absurd (show false = true from fx) Bool.false_ne_true
  | str a =>
    obtain ⟨t', rfl⟩ := ry
    cases x with
    | non => cases rx; exact SeqAt.EqAt.str_none a t'
    | bl b => cases rx; exact SeqAt.EqAt.str_bool a t' b
    | int b => obtain ⟨t, rfl⟩ := rx; exact SeqAt.EqAt.str_int a t' b t
    | str b => obtain ⟨t, rfl⟩ := rx; exact SeqAt.EqAt.str_str a t' b t
    | _ => exact absurd (show false = true from fx) Bool.false_ne_true
  | _ => exact absurd (show false = true from fy) Bool.false_ne_true
def eqU (x : V) (u : Value) : Bool := match u with
  | .none => eqV .non x
  | .bool b => eqV (.bl b) x
  | .int i _ => eqV (.int i) x
  | .str z _ => eqV (.str z) x
  | _ => false
theorem eqU_of {x y : V} {u : Value} (r : RelV y u) (f : flatV y = true) : eqU x u = eqV y x := by
  cases y with
  | non => cases r; rfl
  | bl b => cases r; rfl
  | int i => obtain ⟨t, rfl⟩ := r; rfl
  | str z => obtain ⟨t, rfl⟩ := r; rfl
  | _ => exact absurd (show false = true from f) Bool.false_ne_true
theorem any_eqU {x : V} : ∀ {xs : List V} {us : List Value}, Vals xs us → xs.all flatV = true → us.any (eqU x) = xs.any fun y => eqV y x
  | _, _, .nil, _ => rfl
  | y :: xs, u :: us, .cons r t, f => by
    rw [List.all_cons, Bool.and_eq_true] at f
    rw [List.any_cons, List.any_cons, eqU_of r f.1, any_eqU t f.2]
theorem mem_eqAt {A : Around} {s : Shared} {x : V} {v : Value} (rx : RelV x v) (fx : flatV x = true) : ∀ {xs : List V} {us : List Value}, Vals xs us → xs.all flatV = true → ∀ u ∈ us, SeqAt.EqAt A s u v (eqU x u)
  | _, _, .nil, _ => fun u hu => by cases hu
  | y :: xs, u :: us, .cons r t, f => fun u' hu => by
    rw [List.all_cons, Bool.and_eq_true] at f
    rcases List.mem_cons.mp hu with rfl | hu
    · rw [eqU_of r f.1]; exact eqAt_V r rx f.1 fx
    · exact mem_eqAt rx fx t f.2 u' hu
def inV (x : V) (xs : List V) : Bool := xs.any fun y => eqV y x
def rIn (K : PySem.W.Frag) (neg : Bool) : R2 := fun x y H Q => ∃ p xs, y = .ref p ∧ (SqL K H p xs ∨ SqT K H p xs) ∧ flatV x = true ∧ xs.all flatV = true ∧ Q (.bl (if neg then !inV x xs else inV x xs)) H
theorem op_notIn_seq : OpR X (compareOp .NotIn) (rIn X.K true) := by
  intro pins s σ H x y v u Q I rx ry h
  obtain ⟨p, xs, rfl, hq, fx, fs, q⟩ := h
  cases ry
  rcases hq with hq | hq
  · obtain ⟨its, r, pl, hz⟩ := I.list hq
    refine SeqAt.notIn_listAt (eqU x) pl.isList (fun w hw => mem_eqAt rx fx r fs w (by simpa using hw)) ⟨.bl _, H, I, rfl, ?_⟩
    rw [show its.toArray.any (eqU x) = its.any (eqU x) by simp, any_eqU r fs]
    exact q
  · obtain ⟨its, r, pl, hz⟩ := I.tuple hq
    refine SeqAt.notIn_tupleAt (eqU x) pl (fun w hw => mem_eqAt rx fx r fs w (by simpa using hw)) ⟨.bl _, H, I, rfl, ?_⟩
    rw [show its.toArray.any (eqU x) = its.any (eqU x) by simp, any_eqU r fs]
    exact q
theorem call_len_seq : CallR X (.builtin "len") (fun xs H Q => ∃ p ys, xs = [.ref p] ∧ (SqL X.K H p ys ∨ SqT X.K H p ys) ∧ Q (.int ys.length) H) := by
  intro pins s σ H xs us Q I r h
  obtain ⟨p, ys, rfl, hq, q⟩ := h
  obtain ⟨u, rfl, rx⟩ := vals1 r
  cases rx
  have hn := line63
  rcases hq with hq | hq
  · obtain ⟨its, r', pl, hz⟩ := I.list hq
    have hlen := r'.length
    exact Calls.call_len_list pl.isList (by simp only [List.size_toArray] <;> omega) ⟨.int ys.length, H, I.tok _, ⟨s.toks + 1, by rw [List.size_toArray, hlen]⟩, q⟩
  · obtain ⟨its, r', pl, hz⟩ := I.tuple hq
    have hlen := r'.length
    exact len_tuple pl (by simp only [List.size_toArray] <;> omega) ⟨.int ys.length, H, I.tok _, ⟨s.toks + 1, by rw [List.size_toArray, hlen]⟩, q⟩
theorem CallR.or {f : Value} {r r' : List V → Hp → VK → Prop} (h : CallR X f r) (h' : CallR X f r') : CallR X f (fun xs H Q => r xs H Q ∨ r' xs H Q) := by
  intro pins s σ H xs us Q I rs q
  rcases q with q | q
  · exact h pins s σ H xs us Q I rs q
  · exact h' pins s σ H xs us Q I rs q
theorem call_list_of : CallR X (.type "list") (fun xs H Q => ∃ p ys, xs = [.ref p] ∧ (SqL X.K H p ys ∨ SqT X.K H p ys) ∧ ∀ l, H l = none → Q (.ref l) (upd H l (.lst ys))) := by
  intro pins s σ H xs us Q I r h
  obtain ⟨p, ys, rfl, hq, q⟩ := h
  obtain ⟨u, rfl, rx⟩ := vals1 r
  cases rx
  have fin : ∀ (its : List Value), Vals ys its → ys.length ≤ sizeLine → ∀ (h' : Heap) (c' : Nat), (∀ b o', s.heap.get? b = some o' → h'.get? b = some o') →
      h'.get? s.heap.objs.size = some { cls := .type "list", dict := none, data := .seq its.toArray c', slots := #[] } → EP X pins σ Q (.ref s.heap.objs.size) { s with heap := h' } := fun its r' hz h' c' kp e =>
    ⟨.ref s.heap.objs.size, _, I.laid (t' := s.toks) kp (Nat.le_refl _) (show ObjOk X.prog X.w _ h' _ (.lst ys) from ⟨hz, its, c', r', e⟩), rfl, q _ (I.hok.fresh (Nat.le_refl _))⟩
  rcases hq with hq | hq
  · obtain ⟨its, r', pl, hz⟩ := I.list hq
    have hlen := r'.length
    obtain ⟨o, ho, hc, n, hd⟩ := pl.isList
    exact call_list_seq p (.inl rfl) ho hc hd (fun h' c' kp e => fin its r' hz h' c' kp e) (by simp only [List.size_toArray] <;> omega)
  · obtain ⟨its, r', pl, hz⟩ := I.tuple hq
    have hlen := r'.length
    obtain ⟨o, ho, hc, n, hd⟩ := pl
    exact call_list_seq p (.inr rfl) ho hc hd (fun h' c' kp e => fin its r' hz h' c' kp e) (by simp only [List.size_toArray] <;> omega)
def tyV (K : PySem.W.Frag) (T : String) (x : V) (H : Hp) : Prop := match x with
  | .str _ => T = "str"
  | .int _ => T = "int"
  | .ref p => (T = "list" ∧ ∃ xs, SqL K H p xs) ∨ (T = "tuple" ∧ ∃ o, K.lookup p = some o ∧ o.cls = .type "tuple" ∧ o.dict = none) ∨
      (T = "dict" ∧ ((∃ kvs, H p = some (.dK kvs)) ∨ ∃ kvs, H p = some (.dT kvs))) ∨ (T = "set" ∧ ∃ S n, H p = some (.set S n))
  | _ => False
theorem tyV_is {pins : List (Addr × Obj)} {σ : St} {H : Hp} {s : Shared} {T : String} {x : V} {v : Value} (I : Inv X pins σ H s) (r : RelV x v) (ty : tyV X.K T x H) :
    s.TypeIs v T ∧ ∀ a, v = .ref a → ∃ ob, s.heap.get? a = some ob ∧ ob.dict = none := by
  cases x with
  | str z =>
    obtain ⟨t, rfl⟩ := r
    cases (show T = "str" from ty)
    exact ⟨typeIs_str s z t, fun _ e => nomatch e⟩
  | int i =>
    obtain ⟨t, rfl⟩ := r
    cases (show T = "int" from ty)
    exact ⟨typeIs_int s i t, fun _ e => nomatch e⟩
  | ref p =>
    cases r
    rcases ty with ⟨rfl, xs, hq⟩ | ⟨rfl, o, hk, hc, hd⟩ | ⟨rfl, hk⟩ | ⟨rfl, S, n, hk⟩
    · obtain ⟨its, _, pl, _⟩ := I.list hq
      refine ⟨pl.isList.typeIs, fun a e => ?_⟩
      cases e
      obtain ⟨o, n, e, c, hd, _⟩ := pl
      exact ⟨o, e, hd⟩
    · refine ⟨⟨o, I.kIn p o hk, hc⟩, fun a e => ?_⟩
      cases e
      exact ⟨o, I.kIn _ o hk, hd⟩
    · have z : ∃ o, s.heap.get? p = some o ∧ o.ExactDict := by
        rcases hk with ⟨kvs, hk⟩ | ⟨kvs, hk⟩
        · obtain ⟨_, _, _, _, o, _, _, e, ex, _⟩ := I.hok p _ hk
          exact ⟨o, e, ex⟩
        · obtain ⟨_, _, _, _, o, _, _, e, ex, _⟩ := I.hok p _ hk
          exact ⟨o, e, ex⟩
      obtain ⟨o, e, ex⟩ := z
      refine ⟨⟨o, e, ex.1⟩, fun a e2 => ?_⟩
      cases e2
      exact ⟨o, e, ex.2.1⟩
    · obtain ⟨o, _, _, _, e, ex, _⟩ := I.hok p _ hk
      refine ⟨⟨o, e, ex.1⟩, fun a e2 => ?_⟩
      cases e2
      exact ⟨o, e, ex.2.1⟩
  | _ => exact False.elim ty
def tBM0 (K : PySem.W.Frag) (T : String) (r : V → List V → Hp → VK → Prop) (to : TE) : TE := fun σ H Q => to σ H fun x H1 => tyV K T x H1 ∧ r x [] H1 Q
def tBM (K : PySem.W.Frag) (T : String) (r : V → List V → Hp → VK → Prop) (to : TE) (t : TA) : TE := fun σ H Q => to σ H fun x H1 => tyV K T x H1 ∧ t σ H1 fun xs H2 => r x xs H2 Q
variable {o e : Expr} {es : List Expr} {to : TE} {t : TA} {name : Str} {apos cpos : Pos} {T id : String} {r : V → List V → Hp → VK → Prop}
theorem pe_bm (pa : PlainAttrs T) (slot : Slot T name id) (hty : typeOf (.builtin id) = pure (.type "method_descriptor")) (hm : MtR X id r) (ho : PE X o to) (ha : PA X (e :: es) t)
    (hbase : attributeBase o name X.env (eval o X.env) = eval o X.env := by rfl)
    (hfew : ((backTo cpos (starEach (e :: es) X.env)).all (fun x => !x.1) && (backToKw cpos (keywordEach [] X.env)).all (fun x => x.1.isSome)
      && decide ((e :: es).length + ([] : List Keyword).length + (if ([] : List Keyword).isEmpty then 0 else 1) < 30)) = true := by rfl)
    (hline : (apos.endLine == cpos.line) = true := by rfl) (hs : starEach (e :: es) X.env = (false, eval e X.env) :: starEach es X.env := by rfl) (hplain : (backTo cpos (starEach es X.env)).any (·.1) = false := by rfl) :
    PE X (.Call (.Attribute o name apos) (e :: es) [] cpos) (tBM X.K T r to t) := by
  intro pins s σ H Q I h
  refine wpAny_Call_method_late hbase hfew hline rfl (thn (ho pins s σ H _ I h) fun v s1 ⟨x, H1, I1, r1, ty, q1⟩ => ?_)
  obtain ⟨h1, h2⟩ := tyV_is I1 r1 ty
  refine ⟨T, id, pa, slot, hty, h1, h2, ?_⟩
  have hA := ha cpos pins s1 σ H1 _ I1 q1
  rw [hs] at hA ⊢
  refine Calls.callWith_builtin (by show (false || (backTo cpos (starEach es X.env)).any (·.1)) = false; rw [hplain] <;> rfl) (Calls.evalArgs_plain ?_)
  exact thn hA fun us s2 ⟨vs, H2, I2, r2, q2⟩ => hm pins s2 σ H2 x vs v us Q I2 r1 r2 q2
end
end L2
namespace L2
open PySem PySem.Spec PyProof.Rows
def MtM (X : Cx) (id : String) (r : V → List V → Hp → VK → Prop) : Prop :=
  ∀ (pins : List (Addr × Obj)) (s : Shared) (σ : St) (H : Hp) (x : V) (xs : List V) (v : Value) (us : List Value) (Q : VK), Inv X pins σ H s → RelV x v → Vals xs us → r x xs H Q →
    wpAny (model X.prog X.w) X.A (call (.builtin id) (v :: us)) (EP X pins σ Q) X.xe s
theorem Vals.one : ∀ {x : V} {us : List Value}, Vals [x] us → ∃ u, us = [u] ∧ RelV x u
  | _, _, .cons r .nil => ⟨_, rfl, r⟩
theorem Vals.two : ∀ {x y : V} {us : List Value}, Vals [x, y] us → ∃ u v, us = [u, v] ∧ RelV x u ∧ RelV y v
  | _, _, _, .cons r (.cons q .nil) => ⟨_, _, rfl, r, q⟩
theorem Vals.zero : ∀ {us : List Value}, Vals [] us → us = []
  | _, .nil => rfl
theorem Vals.reverse {xs : List V} {us : List Value} (h : Vals xs us) : Vals xs.reverse us.reverse := by
  induction h with
  | nil => exact .nil
  | cons r t ih => rw [List.reverse_cons, List.reverse_cons]; exact Vals.append ih (.cons r .nil)
section
variable {X : Cx} {pins : List (Addr × Obj)} {σ : St} {H : Hp} {s : Shared} {l b : Addr} {xs ys zs : List V}
theorem Inv.lset {its its' : List Value} {n : Nat} {f : Array Value → Array Value} {t' : Nat} (I : Inv X pins σ H s) (hH : H l = some (.lst xs))
    (e : s.heap.get? l = some { cls := .type "list", data := .seq its.toArray n }) (hf : f its.toArray = its'.toArray) (hv : Vals ys its') (hz : ys.length ≤ sizeLine) :
    Inv X pins σ (upd H l (.lst ys)) { s with heap := s.heap.update l (Obj.mapSeq f), toks := t' } := by
  have q := PySem.IsL.update e f
  rw [hf] at q
  refine I.write (x := l) (e := l) (by rw [hH]; exact trivial) (.inl rfl) (fun b' u hb hu => (Heap.get?_update_other s.heap (Obj.mapSeq f) (Ne.symm hb)).trans hu) ⟨_, q⟩ ?_
  exact ⟨hz, its', _, hv, q⟩
theorem Inv.lnew {its : List Value} {t' : Nat} (I : Inv X pins σ H s) (hv : Vals ys its) (hz : ys.length ≤ sizeLine) :
    Inv X pins σ (upd H s.heap.objs.size (.lst ys)) { s with heap := s.heap.push { cls := .type "list", data := .seq its.toArray }, toks := t' } :=
  I.laid (fun _ _ q => Heap.get?_push_of_some _ q) (Nat.le_refl _) ⟨hz, its, 0, hv, Heap.get?_push_size _ rfl⟩
theorem Inv.fresh (I : Inv X pins σ H s) : H s.heap.objs.size = none := I.hok.fresh (Nat.le_refl _)
theorem Inv.lstM (I : Inv X pins σ H s) (hH : H l = some (.lst xs)) : xs.length ≤ sizeLine ∧ ∃ (its : List Value) (n : Nat), Vals xs its ∧ xs.length = its.length ∧ s.heap.get? l = some { cls := .type "list", data := .seq its.toArray n } := by
  obtain ⟨z, its, n, r, e⟩ := I.hok l _ hH
  exact ⟨z, its, n, r, r.length, e⟩
end
section
variable {X : Cx}
def rAppend : V → List V → Hp → VK → Prop := fun x vs H Q => ∃ l xs y, x = .ref l ∧ vs = [y] ∧ H l = some (.lst xs) ∧ xs.length < sizeLine ∧ Q .non (upd H l (.lst (xs ++ [y])))
theorem mt_append : MtM X "list.append" rAppend := by
  intro pins s σ H x vs v us Q I rx rv h
  obtain ⟨l, xs, y, rfl, rfl, hH, hz, q⟩ := h
  cases rx
  obtain ⟨u, rfl, ru⟩ := rv.one
  obtain ⟨z, its, n, r, hl, e⟩ := I.lstM hH
  refine call_meets F.slot_list_append ⟨_, e, rfl⟩ F.entry_list_append (F.args_list_append_2 _ _) (PySem.list_append l its.toArray n u (by rw [List.size_toArray]; omega)) ⟨e, ?_⟩
  refine ⟨.non, _, I.lset (its' := its ++ [u]) hH e (by simp) (r.append (.cons ru .nil)) ?_, rfl, q⟩
  rw [List.length_append, List.length_singleton]
  omega
end
section
variable {prog : Program} {w : World} {A : Around} {E : Value → Shared → Prop} {s : Shared}
set_option maxRecDepth 100000 in
end
section
variable {X : Cx}
end
end L2
namespace L2
open PySem PySem.Spec PyProof.Rows
section
variable {κ : Type} [DecidableEq κ]
def valV (kvs : List (κ × V)) (k : κ) : Option V := (kvs.find? fun kv => decide (kv.1 = k)).map (·.2)
def putK (kvs : List (κ × V)) (k : κ) (v : V) : List (κ × V) :=
  if (kvs.any fun kv => decide (kv.1 = k)) = true then kvs.map (fun kv => if kv.1 = k then (kv.1, v) else kv) else kvs ++ [(k, v)]
def dropK (kvs : List (κ × V)) (k : κ) : List (κ × V) := kvs.filter fun kv => decide (kv.1 ≠ k)
theorem valV_pos {p : κ × V} {r : List (κ × V)} {k : κ} (e : p.1 = k) : valV (p :: r) k = some p.2 := by simp [valV, List.find?_cons, e]
theorem valV_neg {p : κ × V} {r : List (κ × V)} {k : κ} (e : ¬ p.1 = k) : valV (p :: r) k = valV r k := by simp [valV, List.find?_cons, e]
theorem valV_any (k : κ) : ∀ kvs : List (κ × V), (kvs.any fun kv => decide (kv.1 = k)) = (valV kvs k).isSome
  | [] => rfl
  | p :: r => by
    rw [List.any_cons]
    by_cases e : p.1 = k
    · simp only [valV_pos e, decide_eq_true e, Bool.true_or, Option.isSome_some]
    · rw [valV_neg e, decide_eq_false e, Bool.false_or]; exact valV_any k r
theorem length_putK (kvs : List (κ × V)) (k : κ) (v : V) : (putK kvs k v).length ≤ kvs.length + 1 := by
  unfold putK
  split
  · rw [List.length_map]; omega
  · rw [List.length_append, List.length_cons, List.length_nil]; omega
theorem RelO.isSome_eq {o : Option V} {u : Option Value} (r : RelO o u) : o.isSome = u.isSome := by
  cases o with
  | none => cases u with
    | none => rfl
    | some _ => exact (show False from r).elim
  | some _ => cases u with
    | none => exact (show False from r).elim
    | some _ => rfl
theorem RelO.getD {o : Option V} {u : Option Value} {d : V} {d' : Value} (r : RelO o u) (rd : RelV d d') : RelV (o.getD d) (u.getD d') := by
  cases o with
  | none => cases u with
    | none => exact rd
    | some _ => exact (show False from r).elim
  | some _ => cases u with
    | none => exact (show False from r).elim
    | some _ => exact r
theorem KV.val {kvs : List (κ × V)} {vs : List (κ × Value)} (r : KV kvs vs) (k : κ) : RelO (valV kvs k) (valueAt vs k) := by
  unfold KV at r
  induction r with
  | nil => exact True.intro
  | @cons p q ps qs h t ih =>
    obtain ⟨h1, h2⟩ := h
    by_cases e : p.1 = k
    · have e' : q.1 = k := h1.symm.trans e
      have b : valueAt (q :: qs) k = some q.2 := by simp [valueAt, List.find?_cons, e']
      rw [valV_pos e, b]; exact h2
    · have e' : ¬ q.1 = k := fun z => e (h1.trans z)
      have b : valueAt (q :: qs) k = valueAt qs k := by simp [valueAt, List.find?_cons, e']
      rw [valV_neg e, b]; exact ih
theorem KV.any {kvs : List (κ × V)} {vs : List (κ × Value)} (r : KV kvs vs) (k : κ) : (kvs.any fun kv => decide (kv.1 = k)) = vs.any fun kv => decide (kv.1 = k) := by
  unfold KV at r
  induction r with
  | nil => rfl
  | cons h t ih => rw [List.any_cons, List.any_cons, ih, h.1]
theorem KV.repl {kvs : List (κ × V)} {vs : List (κ × Value)} (r : KV kvs vs) (k : κ) {y : V} {u : Value} (ry : RelV y u) :
    KV (kvs.map fun kv => if kv.1 = k then (kv.1, y) else kv) (vs.map fun kv => if kv.1 = k then (kv.1, u) else kv) := by
  unfold KV at r ⊢
  induction r with
  | nil => exact .nil
  | @cons p q ps qs h t ih =>
    rw [List.map_cons, List.map_cons]
    refine .cons ?_ ih
    obtain ⟨h1, h2⟩ := h
    by_cases e : p.1 = k
    · rw [if_pos e, if_pos (h1.symm.trans e)]; exact ⟨h1, ry⟩
    · rw [if_neg e, if_neg (fun z => e (h1.trans z))]; exact ⟨h1, h2⟩
theorem KV.put {kvs : List (κ × V)} {vs : List (κ × Value)} (r : KV kvs vs) (k : κ) {y : V} {u : Value} (ry : RelV y u) : KV (putK kvs k y) (stored vs k u) := by
  unfold putK stored
  rw [r.any k]
  by_cases e : (vs.any fun kv => decide (kv.1 = k)) = true
  · rw [if_pos e, if_pos e]; exact r.repl k ry
  · rw [if_neg e, if_neg e]; exact Paired.snoc r ⟨rfl, ry⟩
theorem KV.drop {kvs : List (κ × V)} {vs : List (κ × Value)} (r : KV kvs vs) (k : κ) : KV (dropK kvs k) (without vs k) := by
  unfold KV at r ⊢
  unfold dropK without
  induction r with
  | nil => exact .nil
  | @cons p q ps qs h t ih =>
    obtain ⟨h1, h2⟩ := h
    rw [List.filter_cons, List.filter_cons]
    by_cases e : p.1 = k
    · have a : ¬ decide (p.1 ≠ k) = true := by simp [e]
      have b : ¬ decide (q.1 ≠ k) = true := by simp [h1.symm.trans e]
      rw [if_neg a, if_neg b]; exact ih
    · have e' : ¬ q.1 = k := fun z => e (h1.trans z)
      have a : decide (p.1 ≠ k) = true := by simp [e]
      have b : decide (q.1 ≠ k) = true := by simp [e']
      rw [if_pos a, if_pos b]; exact .cons ⟨h1, h2⟩ ih
theorem KV.keys {kvs : List (κ × V)} {vs : List (κ × Value)} (r : KV kvs vs) : kvs.map (·.1) = vs.map (·.1) := by
  unfold KV at r
  induction r with
  | nil => rfl
  | cons h t ih => rw [List.map_cons, List.map_cons, ih, h.1]
theorem KV.length {kvs : List (κ × V)} {vs : List (κ × Value)} (r : KV kvs vs) : kvs.length = vs.length := Paired.length r
end
theorem kV_is {P : Program} {w : World} {k : Key} {u : Value} (r : RelV (kV k) u) : (mixKind P w).is k u = true := by
  cases k with
  | inl i => obtain ⟨t, e⟩ := (show ∃ t, u = Value.int i t from r); subst e; exact mixKind_int P w i t
  | inr x => obtain ⟨t, e⟩ := (show ∃ t, u = Value.str x t from r); subst e; exact mixKind_str P w x t
theorem items_are {P : Program} {w : World} : ∀ {ks : List Key} {us : List Value}, Vals (ks.map kV) us → ItemsAre (mixKind P w) ks us
  | [], _, r => by rw [List.map_nil] at r; cases r; exact .nil
  | k :: ks, _, r => by
    rw [List.map_cons] at r
    cases r with
    | cons h t => exact .cons (kV_is h) (items_are t)
abbrev KT (H : Hp) : List (List Key × V) → List (List Key × Addr × Value) → Prop := Paired fun p q => p.1 = q.1 ∧ H q.2.1 = some (.tup (p.1.map kV)) ∧ RelV p.2 q.2.2
theorem KT.val {H : Hp} {kvs : List (List Key × V)} {xs : List (List Key × Addr × Value)} (r : KT H kvs xs) (k : List Key) : RelO (valV kvs k) ((atKey xs k).map (·.2)) := by
  induction r with
  | nil => exact True.intro
  | @cons p q ps qs h t ih =>
    obtain ⟨h1, _, h2⟩ := h
    by_cases e : p.1 = k
    · have e' : q.1 = k := h1.symm.trans e
      have b : atKey (q :: qs) k = some q.2 := by simp [atKey, List.find?_cons, e']
      rw [valV_pos e, b]; exact h2
    · have e' : ¬ q.1 = k := fun z => e (h1.trans z)
      have b : atKey (q :: qs) k = atKey qs k := by simp [atKey, List.find?_cons, e']
      rw [valV_neg e, b]; exact ih
theorem KT.repl {H : Hp} {kvs : List (List Key × V)} {xs : List (List Key × Addr × Value)} (r : KT H kvs xs) (k : List Key) {y : V} {u : Value} (ry : RelV y u) :
    KT H (kvs.map fun kv => if kv.1 = k then (kv.1, y) else kv) (xs.map (putAt k u)) := by
  induction r with
  | nil => exact .nil
  | @cons p q ps qs h t ih =>
    rw [List.map_cons, List.map_cons]
    refine .cons ?_ ih
    obtain ⟨h1, h2, h3⟩ := h
    unfold putAt
    by_cases e : p.1 = k
    · rw [if_pos e, if_pos (h1.symm.trans e)]; exact ⟨h1, h2, ry⟩
    · rw [if_neg e, if_neg (fun z => e (h1.trans z))]; exact ⟨h1, h2, h3⟩
theorem KT.put {H : Hp} {kvs : List (List Key × V)} {xs : List (List Key × Addr × Value)} (r : KT H kvs xs) (k : List Key) {b : Addr} {y : V} {u : Value} (hb : H b = some (.tup (k.map kV))) (ry : RelV y u) :
    KT H (putK kvs k y) (storedH xs k b u) := by
  have e : (kvs.any fun kv => decide (kv.1 = k)) = (atKey xs k).isSome := by
    rw [valV_any, (r.val k).isSome_eq, Option.isSome_map]
  unfold putK storedH
  rw [e]
  by_cases q : (atKey xs k).isSome = true
  · rw [if_pos q, if_pos q]; exact r.repl k ry
  · rw [if_neg q, if_neg q]; exact Paired.snoc r ⟨rfl, hb, ry⟩
theorem KT.keeps {H H' : Hp} {kvs : List (List Key × V)} {xs : List (List Key × Addr × Value)} (r : KT H kvs xs) (ht : ∀ b ys, H b = some (.tup ys) → H' b = some (.tup ys)) : KT H' kvs xs :=
  Paired.mapP r fun _ _ z => ⟨z.1, ht _ _ z.2.1, z.2.2⟩
section
variable {P : Program} {w : World} {H : Hp} {h : Heap} {a : Addr}
theorem rd_of {u : HO} (ok : HOk P w H h) (e : Rd H a u) : ObjOk P w H h a u := e.ok ok
theorem dk_rd {kvs : List (Key × V)} (ok : HOk P w H h) (e : Rd H a (.dK kvs)) : kvs.length ≤ sizeLine ∧ (a == sysModules) = false ∧ ∃ vs, KV kvs vs ∧ h.DictOf (mixKind P w) a vs :=
  show ObjOk P w H h a (.dK kvs) from rd_of ok e
theorem dk_of {kvs : List (Key × V)} (ok : HOk P w H h) (e : H a = some (.dK kvs)) : kvs.length ≤ sizeLine ∧ (a == sysModules) = false ∧ ∃ vs, KV kvs vs ∧ h.DictOf (mixKind P w) a vs := dk_rd ok (.inl e)
theorem key_of {ks : List Key} (ok : HOk P w H h) (e : H a = some (.tup (ks.map kV))) : (tupleKind (mixKind P w)).is h ks a := by
  obtain ⟨_, its, r, o, h1, h2, n, h3⟩ := (show ObjOk P w H h a (.tup (ks.map kV)) from ok a _ e)
  exact ⟨o, its.toArray, n, h1, h2, h3, by simpa using items_are r⟩
theorem dt_rd {kvs : List (List Key × V)} (ok : HOk P w H h) (e : Rd H a (.dT kvs)) : kvs.length ≤ sizeLine ∧ (a == sysModules) = false ∧
    ∃ xs, KT H kvs xs ∧ h.DictOfH (tupleKind (mixKind P w)) a xs := by
  obtain ⟨z, y, xs, r, o, es, ep, h1, h2, h3, h4, h5⟩ := (show ObjOk P w H h a (.dT kvs) from rd_of ok e)
  refine ⟨z, y, xs, r, o, es, ep, h1, h2, h3, h4, fun x hx => ?_, h5⟩
  have all : ∀ {l : List (List Key × V)} {m : List (List Key × Addr × Value)}, KT H l m → ∀ x ∈ m, (tupleKind (mixKind P w)).is h x.1 x.2.1 := by
    intro l m q
    induction q with
    | nil => intro x hx; exact nomatch hx
    | @cons p q ps qs hq t ih =>
      intro x hx
      rcases List.mem_cons.mp hx with e | hx
      · subst e
        exact key_of ok (by rw [← hq.1]; exact hq.2.1)
      · exact ih x hx
  exact all r x hx
theorem dt_of {kvs : List (List Key × V)} (ok : HOk P w H h) (e : H a = some (.dT kvs)) : kvs.length ≤ sizeLine ∧ (a == sysModules) = false ∧
    ∃ xs, KT H kvs xs ∧ h.DictOfH (tupleKind (mixKind P w)) a xs := dt_rd ok (.inl e)
end
def DGet (H : Hp) (a : Addr) (y : V) (r : Option V) : Prop :=
  (∃ kvs k, Rd H a (.dK kvs) ∧ y = kV k ∧ r = valV kvs k) ∨ ∃ kvs k b, Rd H a (.dT kvs) ∧ y = .ref b ∧ H b = some (.tup (k.map kV)) ∧ r = valV kvs k
def DPut (H : Hp) (a : Addr) (y v : V) (H' : Hp) : Prop :=
  (∃ kvs k, H a = some (.dK kvs) ∧ y = kV k ∧ kvs.length < sizeLine ∧ H' = upd H a (.dK (putK kvs k v))) ∨
  ∃ kvs k b, H a = some (.dT kvs) ∧ y = .ref b ∧ H b = some (.tup (k.map kV)) ∧ kvs.length < sizeLine ∧ H' = upd H a (.dT (putK kvs k v))
theorem DGet.k {H : Hp} {a : Addr} {kvs : List (Key × V)} {k : Key} (e : H a = some (.dK kvs)) : DGet H a (kV k) (valV kvs k) := .inl ⟨kvs, k, .inl e, rfl, rfl⟩
theorem DGet.t {H : Hp} {a b : Addr} {kvs : List (List Key × V)} {k : List Key} (e : H a = some (.dT kvs)) (eb : H b = some (.tup (k.map kV))) : DGet H a (.ref b) (valV kvs k) := .inr ⟨kvs, k, b, .inl e, rfl, eb, rfl⟩
theorem DPut.k {H : Hp} {a : Addr} {kvs : List (Key × V)} {k : Key} {v : V} (e : H a = some (.dK kvs)) (hl : kvs.length < sizeLine) : DPut H a (kV k) v (upd H a (.dK (putK kvs k v))) := .inl ⟨kvs, k, e, rfl, hl, rfl⟩
theorem DPut.t {H : Hp} {a b : Addr} {kvs : List (List Key × V)} {k : List Key} {v : V} (e : H a = some (.dT kvs)) (eb : H b = some (.tup (k.map kV))) (hl : kvs.length < sizeLine) :
    DPut H a (.ref b) v (upd H a (.dT (putK kvs k v))) := .inr ⟨kvs, k, b, e, rfl, eb, hl, rfl⟩
section
variable {X : Cx} {pins : List (Addr × Obj)} {σ : St} {H : Hp} {s : Shared} {a : Addr} {y v : V} {u r : Value} {o : Option V} {A : Around} {E : Value → Shared → Prop}
theorem Inv.big (I : Inv X pins σ H s) : sysModules < s.heap.objs.size := by
  have h : mainGlobals < s.heap.objs.size := (I.mod.glob.keeps I.bk).lt
  exact Nat.lt_trans (by decide) h
theorem d_write {h' : Heap} {t' : Nat} {ob : HO} (I : Inv X pins σ H s) (mu : Mut (H a)) (hs : Heap.SameBut a s.heap h') (he : ∃ q, h'.get? a = some q) (new : ObjOk X.prog X.w (upd H a ob) h' a ob) :
    Inv X pins σ (upd H a ob) { s with heap := h', toks := t' } :=
  I.write (x := a) (e := a) mu (.inl rfl) (fun b q hb z => (hs.2 b hb).trans z) he new
theorem dk_new {P : Program} {w : World} {H' : Hp} {h' : Heap} {kvs : List (Key × V)} {vs : List (Key × Value)} (z : kvs.length ≤ sizeLine) (hd : (a == sysModules) = false) (rel : KV kvs vs) (dd : h'.DictOf (mixKind P w) a vs) :
    ObjOk P w H' h' a (.dK kvs) := ⟨z, hd, vs, rel, dd⟩
theorem d_setItem {H' : Hp} {Q : Unit → Shared → Prop} (hu : A.units + 1 < cLine) (I : Inv X pins σ H s) (g : DPut H a y v H') (ry : RelV y u) (rv : RelV v r) (h : ∀ s', Inv X pins σ H' s' → Q () s') :
    wpAny (model X.prog X.w) A (setItem (.ref a) u r) Q E s := by
  rcases g with ⟨kvs, k, e, ey, l, eH⟩ | ⟨kvs, k, b, e, ey, eb, l, eH⟩
  · subst ey eH
    obtain ⟨z, hd, vs, rel, dd⟩ := dk_of I.hok e
    have hz : vs.length ≤ sizeLine := by rw [← rel.length]; exact z
    have hl : (putK kvs k v).length ≤ sizeLine := by have := length_putK kvs k v; omega
    refine wpAny_setItem_pairs (hsz := hz) (kV_is ry) dd fun h' dd' hs => h _ ?_
    have he : ∃ q, h'.get? a = some q := let ⟨q, _, _, hq, _⟩ := dd'; ⟨q, hq⟩
    exact d_write I (by rw [e]; exact True.intro) hs he (dk_new hl hd (rel.put k rv) dd')
  · subst ey eH
    cases (show u = Value.ref b from ry)
    obtain ⟨z, hd, xs, rel, dd⟩ := dt_of I.hok e
    have hz : xs.length ≤ sizeLine := by rw [← Paired.length rel]; exact z
    have hl : (putK kvs k v).length ≤ sizeLine := by have := length_putK kvs k v; omega
    refine wpAny_setItem_heap (hsz := hz) (tupleKind_room_in1 hu) (key_of I.hok eb) dd fun h' dd' hs => h _ ?_
    obtain ⟨q, es, ep, hq, h2, h3, h4, _, h5⟩ := dd'
    refine d_write I (by rw [e]; exact True.intro) hs ⟨q, hq⟩ ⟨hl, hd, _, (rel.put k eb rv).keeps fun c ys ec => ?_, q, es, ep, hq, h2, h3, h4, h5⟩
    rw [upd_ne (ne_of ec e (fun z => nomatch z))]
    exact ec
end
section
variable {X : Cx} {pins : List (Addr × Obj)} {σ : St} {H : Hp} {s : Shared} {a : Addr} {kvs : List (Key × V)} {k : Key} {u : Value} {A : Around} {E : Value → Shared → Prop}
end
def tDGet (td ty : TE) : TE := fun σ H Q => td σ H fun x H1 => ty σ H1 fun y H2 => ∃ a v, x = .ref a ∧ DGet H2 a y (some v) ∧ Q v H2
def sDPut (td ty tv : TE) : TS := fun D σ H => tv σ H fun v H1 => td σ H1 fun x H2 => ty σ H2 fun y H3 => ∃ a H4, x = .ref a ∧ DPut H3 a y v H4 ∧ D.nx σ H4
section
variable {X : Cx} {o i e value : Expr} {pos pos' tpos : Pos} {td ty tv : TE}
theorem ps_dput (hu : X.A.units + 1 < cLine) (ho : PE X o td) (hi : PE X i ty) (hv : PE X value tv) (hs : swapsWith value (some (.Subscript o i pos')) pos.line X.env = pure false) :
    PS X (.Assign [.Subscript o i pos'] value pos) (sDPut td ty tv) := by
  intro pins s σ H D I h
  refine wpAny_Assign_Subscript (thn (hv pins s σ H _ I h) fun r s1 ⟨v, H1, I1, rv, q1⟩ => thn (ho pins s1 σ H1 _ I1 q1) fun u s2 ⟨x, H2, I2, rx, q2⟩ => thn (hi pins s2 σ H2 _ I2 q2) fun iv s3 ⟨y, H3, I3, ry, a, H4, ex, g, q3⟩ => ?_) hs
  subst ex
  obtain rfl : u = Value.ref a := rx
  exact d_setItem hu I3 g ry rv fun s4 I4 => ⟨σ, H4, I4, q3⟩
end
theorem dk_empty {P : Program} {w : World} {H : Hp} (h : Heap) (hb : sysModules < h.objs.size) : ObjOk P w H (h.push { cls := .type "dict", data := .dict #[] }) h.objs.size (.dK []) :=
  ⟨Nat.zero_le _, beq_eq_false_iff_ne.mpr (Ne.symm (Nat.ne_of_lt hb)), [], .nil, Heap.DictOf.new h⟩
def tDNewK : TE := fun _ H Q => ∀ p, H p = none → Q (.ref p) (upd H p (.dK []))
section
variable {X : Cx} {pos : Pos}
theorem pe_dnewK : PE X (.Dict [] [] pos) tDNewK := fun pins s σ H Q I h =>
  wpAny_Dict_empty ⟨.ref s.heap.objs.size, _, I.laid (a := s.heap.objs.size) (o := .dK []) (t' := s.toks) (fun _ _ q => Heap.get?_push_of_some _ q) (Nat.le_refl _) (dk_empty s.heap I.big), rfl, h _ (I.hok.fresh (Nat.le_refl _))⟩
end
def tPairs : List (TE × TE) → St → Hp → (List (V × V) → Hp → Prop) → Prop
  | [], _, H, Q => Q [] H
  | (tk, tv) :: r, σ, H, Q => tk σ H fun x H1 => tv σ H1 fun y H2 => tPairs r σ H2 fun ps H3 => Q ((x, y) :: ps) H3
abbrev VV : List (V × V) → List (Value × Value) → Prop := Paired fun p q => RelV p.1 q.1 ∧ RelV p.2 q.2
def PPs (X : Cx) (pos : Pos) (keys : List (Option Expr)) (values : List Expr) (trs : List (TE × TE)) : Prop :=
  ∀ (pins : List (Addr × Obj)) (s : Shared) (σ : St) (H : Hp) (Q : List (V × V) → Hp → Prop), Inv X pins σ H s → tPairs trs σ H Q →
    wpAny (model X.prog X.w) X.A (evalPairs (pairTrees keys values X.env pos)) (fun vs s' => ∃ ps H', Inv X pins σ H' s' ∧ VV ps vs ∧ Q ps H') X.xe s
theorem pps_nil {X : Cx} {pos : Pos} : PPs X pos [] [] [] := fun pins s σ H Q I h => pairTrees_nil_walk ⟨[], H, I, .nil, h⟩
theorem pps_cons {X : Cx} {pos : Pos} {k v : Expr} {ks : List (Option Expr)} {vs : List Expr} {tk tv : TE} {trs : List (TE × TE)} (hk : PE X k tk) (hv : PE X v tv) (hr : PPs X pos ks vs trs) :
    PPs X pos (some k :: ks) (v :: vs) ((tk, tv) :: trs) := fun pins s σ H Q I h =>
  pairTrees_cons_walk (thn (hk pins s σ H _ I h) fun u s1 ⟨x, H1, I1, rx, q1⟩ => thn (hv pins s1 σ H1 _ I1 q1) fun w2 s2 ⟨y, H2, I2, ry, q2⟩ =>
    thn (hr pins s2 σ H2 _ I2 q2) fun ws s3 ⟨ps, H3, I3, rel, q3⟩ => ⟨(x, y) :: ps, H3, I3, .cons ⟨rx, ry⟩ rel, q3⟩)
def mergeK (kvs more : List (Key × V)) : List (Key × V) := more.foldl (fun acc kv => putK acc kv.1 kv.2) kvs
theorem KV.merge : ∀ {more : List (Key × V)} {rs : List (Key × Value)} {kvs : List (Key × V)} {vs : List (Key × Value)}, KV more rs → KV kvs vs → KV (mergeK kvs more) (merged vs rs) := by
  intro more rs kvs vs r
  unfold KV at r
  induction r generalizing kvs vs with
  | nil => intro q; exact q
  | @cons p q ps qs h t ih =>
    intro r0
    have e : KV (putK kvs p.1 p.2) (stored vs q.1 q.2) := by
      have := r0.put p.1 h.2
      rw [← h.1]; exact this
    exact ih e
theorem length_mergeK : ∀ (more kvs : List (Key × V)), (mergeK kvs more).length ≤ kvs.length + more.length
  | [], kvs => by show kvs.length ≤ kvs.length + 0; omega
  | p :: r, kvs => by
    have h1 := length_mergeK r (putK kvs p.1 p.2)
    have h2 := length_putK kvs p.1 p.2
    show (mergeK (putK kvs p.1 p.2) r).length ≤ _
    rw [List.length_cons]; omega
theorem carries_of {P : Program} {w : World} : ∀ {kvs : List (Key × V)} {ws : List (Value × Value)}, VV (kvs.map fun kv => (kV kv.1, kv.2)) ws → ∃ rs, Carries (mixKind P w) ws rs ∧ KV kvs rs
  | [], _, r => by rw [List.map_nil] at r; cases r; exact ⟨[], True.intro, .nil⟩
  | p :: kvs, _, r => by
    rw [List.map_cons] at r
    cases r with
    | @cons a b as bs h t =>
      obtain ⟨rs, c, q⟩ := carries_of (P := P) (w := w) t
      obtain ⟨b1, b2⟩ := b
      exact ⟨(p.1, b2) :: rs, ⟨kV_is h.1, rfl, c⟩, .cons ⟨rfl, h.2⟩ q⟩
def tDisp (trs : List (TE × TE)) : TE := fun σ H Q => ∀ p, H p = none → tPairs trs σ (upd H p (.dK [])) fun ps H2 => H2 p = some (.dK []) ∧ ∃ kvs : List (Key × V), ps = kvs.map (fun kv => (kV kv.1, kv.2)) ∧ kvs.length ≤ 15 ∧ Q (.ref p) (upd H2 p (.dK (mergeK [] kvs)))
theorem pe_disp {X : Cx} {pos : Pos} {keys : List (Option Expr)} {values : List Expr} {trs : List (TE × TE)} (h : PPs X pos keys values trs) (hall : keys.all (·.isSome) = true) (hl : keys.length = values.length) (h0 : keys ≠ [])
    (h15 : keys.length ≤ 15) : PE X (.Dict keys values pos) (tDisp trs) := by
  intro pins s σ H Q I q
  have hn := I.hok.fresh (Nat.le_refl s.heap.objs.size)
  have I1 := I.laid (a := s.heap.objs.size) (o := .dK []) (h' := s.heap.push { cls := .type "dict", data := .dict #[] }) (t' := s.toks) (fun _ _ q => Heap.get?_push_of_some _ q) (Nat.le_refl _) (dk_empty s.heap I.big)
  refine wpAny_Dict_walk (knd := mixKind X.prog X.w) hall hl h0 h15 (thn (h pins _ σ _ _ I1 (q _ hn)) fun ws s2 ⟨ps, H2, I2, rel, e, kvs, ep, lk, q2⟩ => ?_)
  subst ep
  obtain ⟨rs, c, rk⟩ := carries_of (P := X.prog) (w := X.w) rel
  obtain ⟨z, hd, vs0, r0, dd⟩ := dk_of I2.hok e
  cases r0
  refine ⟨rs, c, dd, fun h' dd' hs => ⟨.ref s.heap.objs.size, _, ?_, rfl, q2⟩⟩
  have hz : (mergeK [] kvs).length ≤ sizeLine := by
    have h1 := length_mergeK kvs []
    rw [List.length_nil] at h1
    rw [sizeLine_eq]; omega
  have he : ∃ q, h'.get? s.heap.objs.size = some q := let ⟨q, _, _, hq, _⟩ := dd'; ⟨q, hq⟩
  exact d_write I2 (by rw [e]; exact True.intro) hs he (dk_new hz hd (rk.merge .nil) dd')
structure M1 (X : Cx) (o : Expr) (m : Str) (apos : Pos) (e : Expr) (cpos : Pos) : Prop where
  base : attributeBase o m X.env (eval o X.env) = eval o X.env
  few : ((backTo cpos (starEach [e] X.env)).all (fun x => !x.1) && (backToKw cpos (keywordEach [] X.env)).all (fun x => x.1.isSome)
    && decide (([e] : List Expr).length + ([] : List Keyword).length + (if ([] : List Keyword).isEmpty then 0 else 1) < 30)) = true
  line : (apos.endLine == cpos.line) = true
  trees : backTo cpos (starEach [e] X.env) = [(false, eval e X.env)]
structure M2 (X : Cx) (o : Expr) (m : Str) (apos : Pos) (e f : Expr) (cpos : Pos) : Prop where
  base : attributeBase o m X.env (eval o X.env) = eval o X.env
  few : ((backTo cpos (starEach [e, f] X.env)).all (fun x => !x.1) && (backToKw cpos (keywordEach [] X.env)).all (fun x => x.1.isSome)
    && decide (([e, f] : List Expr).length + ([] : List Keyword).length + (if ([] : List Keyword).isEmpty then 0 else 1) < 30)) = true
  line : (apos.endLine == cpos.line) = true
  trees : backTo cpos (starEach [e, f] X.env) = [(false, eval e X.env), (false, eval f X.env)]
section
variable {X : Cx} {pins : List (Addr × Obj)} {σ : St} {H : Hp} {s : Shared} {a : Addr} {y d : V} {u r : Value} {o : Option V} {A : Around} {E : Value → Shared → Prop}
end
section
variable {X : Cx} {o e f : Expr} {apos cpos : Pos} {td ty tx : TE}
end
section
variable {X : Cx} {pins : List (Addr × Obj)} {σ : St} {H : Hp} {s : Shared} {a : Addr} {kvs : List (Key × V)} {A : Around} {E : Value → Shared → Prop}
end
section
variable {X : Cx} {pins : List (Addr × Obj)} {σ : St} {H : Hp} {s : Shared} {a : Addr} {y : V} {u : Value} {A : Around} {E : Value → Shared → Prop}
end
end L2
namespace Att
open PySem PySem.W PySem.Calls PyProof.Rows
theorem ints_of_wellAll {P : Params} {h : Heap} : ∀ (ns : List Int) (vs : List Value), WellAll P h vs (ns.map WData.int) → IntsAre vs ns := by
  intro ns
  induction ns with
  | nil =>
    intro vs w
    rw [List.map_nil] at w
    cases w
    exact .nil
  | cons n ns ih =>
    intro vs w
    rw [List.map_cons] at w
    cases w with
    | cons a b =>
      cases a
      exact .cons _ _ (ih _ b)
theorem script_of {l : OpenLaw} {n : Nat} (hn : l.most = some n) {P : Params} {h : Heap} {args : List WData} {vals : List Value}
    (hpre : l.row.toRowW.claim.pre args = true) (hwl : WellAll P h vals args) :
    ∃ a vs ns, vals = [Value.ref a] ∧ args = [WData.list (ns.map WData.int)] ∧ h.get? a = some { cls := .type "list", data := .seq vs.toArray } ∧ IntsAre vs ns ∧ ns.length ≤ n := by
  have hsh : WShape.hasAll [] args [.list .int] = true := (pre_splitW hpre).1
  have hc : l.pre.holds [] { args := args } = true := (pre_splitW hpre).2
  obtain ⟨d, r, rfl, h1, h2⟩ := hasAllW_cons hsh
  obtain rfl := hasAllW_nil h2
  obtain ⟨xs, rfl, h3⟩ := hasW_list h1
  obtain ⟨ns, rfl⟩ := items_int h3
  have hlen : ns.length ≤ n := by
    unfold OpenLaw.pre at hc
    have h4 : (WTm.not (.lt (.lit (.int (n : Int))) (.len (.arg 0)))).holds [] { args := [.list (ns.map .int)] } = true := by
      have h4 := (holds_andW hc).1
      rw [hn] at h4
      exact h4
    have h5 := condW_of h4 (w_not (w_lt w_lit (w_len_list (w_arg rfl))))
    rw [List.length_map] at h5
    refine Nat.le_of_not_lt fun q => ?_
    have q' : (n : Int) < ((ns.length : Nat) : Int) := by omega
    first
      | (rw [decide_eq_true q'] at h5; exact absurd h5 (by decide))
      | (simp at h5; omega)
  cases hwl with
  | cons w1 w2 =>
    cases w2
    cases w1 with
    | list ho hall => exact ⟨_, _, ns, rfl, rfl, ho, ints_of_wellAll ns _ hall, hlen⟩
theorem post_true (l : OpenLaw) (args : List WData) : l.row.toRowW.claim.post args (.bool true) args = true :=
  postW_of (r := l.row.toRowW) (X := (true == true))
    (show WShape.has [] (.bool true) .bool = true by first | rfl | decide | simp [WShape.has, WShape.arms, WShape.armsAll])
    (show (WTm.eq .res (.lit (.bool true))).value [] { args := args, res := some (.bool true), after := args } = some (.bool (true == true)) from w_eq_bool (w_res rfl) w_lit) rfl
theorem attach_call {l : OpenLaw} {n : Nat} {q : Program} {loose : List Str} {XP : (Str → Option Value) → Heap → Prop} {YP : World → Heap → Prop} {d : DefRec}
    (hn : l.most = some n) (hdf : d.params.defaults = [])
    (call : ∀ (w : World) (s₀ s₁ : Shared) (mg mb : Str → Option Value) (fa : Addr) (o : Obj) (pm cd doc : Value) (a : Addr) (vs : List Value) (ns : List Int),
      Ground q loose [] XP w s₀ mg mb s₁.heap → YP w s₁.heap →
      s₁.heap.get? fa = some o → o.data = .func (docDef d.name d.params d.body d.scope pm cd doc) → s₁.heap.CodeRec cd d.name → mg d.name = some (.ref fa) →
      s₁.heap.get? a = some { cls := .type "list", data := .seq vs.toArray } → IntsAre vs ns → ns.length ≤ n → s₁.gens = #[] →
      codeAny (model l.prog w) callerA (.call (.ref fa) ⟨[.ref a], []⟩) (fun r s' => r = .ok (.ret (.bool true)) ∧ OldK s₁.heap s'.heap ∧ s'.os = s₁.os ∧ AllBare s'.gens) s₁) :
    WalkO q loose XP YP l.row.toRowW d [] (fun f vs => PySem.call f vs) := by
  intro w s₀ s₁ mg mb G Y fa o pm cd doc dV kV ho hd hcd hD hmg hg args vals as hpre hlay hrd hwl hlo
  obtain rfl : dV = .none := Dflts.none hD hdf
  obtain rfl : kV = .none := Dflts.noKw hD
  obtain ⟨a, vs, ns, rfl, rfl, hobj, hints, hlen⟩ := script_of hn hpre hwl
  refine enter_call (codeAny_mono (call w s₀ s₁ mg mb fa o pm cd doc a vs ns G Y ho (fd_plain hd) hcd hmg hobj hints hlen hg) fun r s' hq => ?_)
  obtain ⟨rfl, h2, h3, h4⟩ := hq
  exact ⟨.inl ⟨.bool true, .bool true, [], rfl, fun _ => rfl, .bool true, post_true l _, fun _ => ⟨List.Pairwise.nil, fun _ hm => (nomatch hm)⟩⟩, h2, h3, h4⟩
section
variable {prog : Program} {w : World} {A : Around} {E : Value → Shared → Prop} {s : Shared} {K : Frag}
end
end Att
namespace L2
open PySem PySem.Spec PyProof.Rows
theorem vals_ints : ∀ {vs : List Value} {ns : List Int}, IntsAre vs ns → Vals (ns.map V.int) vs
  | _, _, .nil => .nil
  | _, _, .cons n t h => .cons ⟨t, rfl⟩ (vals_ints h)
def Only (H : Hp) : Prop := ∀ b, H b = none ∨ ∃ o xs, H b = some (.frz o (.lst xs))
theorem law_call {P : Program} {w : World} {K : PySem.W.Frag} {mg mb : Str → Option Value} {CX : CXT} {k : Nat} {fa a : Addr} {fd : FuncData} {x : Str} {sp : Sp} {s₁ : Shared} {vs : List Value} {ns : List Int}
    (KX : K.In s₁.heap) (hns : s₁.heap.Ns mainGlobals mg) (hb : s₁.heap.Ns builtinsNs mb) (hbb : ∀ x : Str, x ≠ "__name__" → mb x = bootBuiltins x) (hlim : s₁.heap.NoLimit) (hg : s₁.gens = #[])
    (ha : s₁.heap.get? a = some { cls := .type "list", data := .seq vs.toArray }) (hi : IntsAre vs ns) (hl : ns.length ≤ sizeLine) (hr : Room k callerA)
    (F : ∀ base : Heap, K.In base → base.Ns mainGlobals mg → FnOk P w K mg base CX k fa fd [x] sp) (hbind : ∀ (s : Shared) (u : Value), BindsTo s fd ⟨[u], []⟩ [(x, u)])
    (hsp : ∀ H : Hp, Only H → SqL K H a (ns.map V.int) → sp [.ref a] H (fun v _ => v = .bl true) fun _ _ _ => False)
    (hCX : ∀ H e s', CX [] H s₁ (fun _ _ _ => False) e s' → False) :
    codeAny (model P w) callerA (.call (.ref fa) ⟨[.ref a], []⟩) (fun r s' => r = .ok (.ret (.bool true)) ∧ OldK s₁.heap s'.heap ∧ s'.os = s₁.os ∧ AllBare s'.gens) s₁ := by
  have rv := vals_ints hi
  have lenV := hi.length
  -- from an abstract heap in which nothing but the script may be tracked
  have core : ∀ H : Hp, Only H → SqL K H a (ns.map V.int) → HOk P w H s₁.heap → (∀ b, H b ≠ none → b = a) → (H a ≠ none → K.lookup a = none) →
      codeAny (model P w) callerA (.call (.ref fa) ⟨[.ref a], []⟩) (fun r s' => r = .ok (.ret (.bool true)) ∧ OldK s₁.heap s'.heap ∧ s'.os = s₁.os ∧ AllBare s'.gens) s₁ := by
    intro H hO hS hok hA hK
    have base_of : ∀ {b : Addr} {o : Obj}, s₁.heap.get? b = some o → H b = none → (hidT s₁.heap H).get? b = some o := fun e n => hidT_get e n
    have noA : ∀ {b : Addr} {o : Obj} {es : Array DictEntry} {ep : Nat}, s₁.heap.get? b = some o → o.data = .dict es ep → H b = none := fun {b o es ep} e d => by
      cases q : H b with
      | none => rfl
      | some u =>
        have e' : b = a := hA b (by rw [q]; simp)
        subst e'
        rw [ha] at e; cases e
        have d' : Data.seq vs.toArray _ = Data.dict es ep := d
        cases d'
    have nsK : ∀ {b : Addr} {m : Str → Option Value}, s₁.heap.Ns b m → (hidT s₁.heap H).Ns b m := fun {b m} ⟨o, es, ep, e, d, r⟩ => ⟨o, es, ep, base_of e (noA e d), d, r⟩
    have hKb : K.In (hidT s₁.heap H) := fun b o e => base_of (KX b o e) (by
      cases q : H b with
      | none => rfl
      | some u =>
        have e' : b = a := hA b (by rw [q]; simp)
        subst e'
        rw [hK (by rw [q]; simp)] at e; cases e)
    have hM : Mod K mg (hidT s₁.heap H) := ⟨hKb, nsK hns, ⟨mb, nsK hb, hbb⟩, let ⟨mc, h1, h2⟩ := hlim; ⟨mc, nsK h1, h2⟩⟩
    have e0 : Env0 P w K mg (hidT s₁.heap H) callerA [] s₁ H := ⟨rfl, hM, fun b o e => of_hidT e, Nat.le_of_eq (hidT_size _ _), trivial, fun b hb => absurd (show b ∈ ([] : List Addr) from hb) (by simp), hok, .of_eq hg⟩
    refine codeAny_mono ((F _ hKb (nsK hns)).run callerA [] s₁ H ⟨[.ref a], []⟩ [.ref a] [.ref a] _ _ hr e0 (hbind s₁ (.ref a)) (.cons rfl .nil) (hsp H hO hS)) fun r s' h => ?_
    cases r with
    | error e => exact (hCX H e s' h).elim
    | ok fl =>
      cases fl with
      | next => exact False.elim h
      | brk => exact False.elim h
      | cont => exact False.elim h
      | ret u =>
        obtain ⟨v, H', os, bare, un, hok', r', q⟩ := h
        have q' : v = .bl true := q
        subst q'
        obtain rfl : u = Value.bool true := r'
        refine ⟨rfl, OldK.of_keep fun b o e => ?_, os, bare⟩
        cases q : H b with
        | none => exact un.keep b o e q (by intro z; exact absurd (show b ∈ ([] : List Addr) from z) (by simp)) (by simp)
        | some u =>
          rcases hO b with z | ⟨ob, xs, z⟩
          · rw [q] at z; cases z
          · have z2 := un.frzs b ob _ z
            obtain ⟨e1, _⟩ := hok b _ z
            obtain ⟨e2, _⟩ := hok' b _ z2
            rw [e] at e1; cases e1
            exact e2
  cases hk : K.lookup a with
  | some o =>
    -- the script is one of the module's own objects
    have e := KX a o hk
    rw [ha] at e
    cases e
    refine core (fun _ => none) (fun _ => .inl rfl) (.inr ⟨_, vs.toArray, _, hk, rfl, rfl, rfl, by rw [List.size_toArray, lenV]; exact hl, by simpa using rv⟩) (fun b u z => by have z' : (none : Option HO) = some u := z; cases z') (fun b z => absurd rfl z) fun z => absurd rfl z
  | none =>
    refine core (fun b => if b = a then some (.frz { cls := .type "list", data := .seq vs.toArray } (.lst (ns.map V.int))) else none) (fun b => ?_) (.inl (.inr ⟨{ cls := .type "list", data := .seq vs.toArray }, if_pos rfl⟩)) (fun b u z => ?_) (fun b z => ?_) fun _ => hk
    · by_cases hb : b = a
      · exact .inr ⟨_, _, if_pos hb⟩
      · exact .inl (if_neg hb)
    · by_cases hb : b = a
      · have z' := (if_pos hb).symm.trans z
        cases z'
        subst hb
        exact ⟨ha, by rw [List.length_map]; exact hl, vs, _, rv, ha⟩
      · have z' := (if_neg hb).symm.trans z
        cases z'
    · by_cases hb : b = a
      · exact hb
      · exact absurd (if_neg hb) z
end L2
namespace L2
open PySem PySem.Spec PyProof.Rows
theorem walk_of {l : PySem.W.OpenLaw} {n k : Nat} {q : Program} {loose : List Str} {XP : (Str → Option Value) → Heap → Prop} {YP : World → Heap → Prop} {d : DefRec} {K : Params → PySem.W.Frag} {CX : World → CXT} {sp : World → Sp} {x : Str}
    (hn : l.most = some n) (hn2 : n ≤ sizeLine) (hdf : d.params.defaults = []) (hr : Room k callerA)
    (hY : ∀ (w : World) (h : Heap), YP w h → (K w.params).In h)
    (F : ∀ (w : World) (mg : Str → Option Value) (fa : Addr) (h : Heap), (K w.params).In h → h.Ns mainGlobals mg → mg d.name = some (.ref fa) →
      ∃ fd : FuncData, (∀ (s : Shared) (u : Value), BindsTo s fd ⟨[u], []⟩ [(x, u)]) ∧
        ∀ base : Heap, (K w.params).In base → base.Ns mainGlobals mg → FnOk l.prog w (K w.params) mg base (CX w) k fa fd [x] (sp w))
    (hsp : ∀ (w : World) (H : Hp) (a : Addr) (ns : List Int), ns.length ≤ n → Only H → SqL (K w.params) H a (ns.map V.int) → sp w [.ref a] H (fun v _ => v = .bl true) fun _ _ _ => False)
    (hCX : ∀ (w : World) (H : Hp) (s : Shared) (e : Value) (s' : Shared), CX w [] H s (fun _ _ _ => False) e s' → False) :
    PySem.W.WalkO q loose XP YP l.row.toRowW d [] (fun f vs => PySem.call f vs) := by
  refine Att.attach_call hn hdf fun w s₀ s₁ mg mb fa o pm cd doc a vs ns G Y ho hd hcd hmg hobj hints hlen hg => ?_
  have KX := hY w _ Y
  obtain ⟨fd, hb, hF⟩ := F w mg fa _ KX G.T.g hmg
  exact law_call KX G.T.g G.T.b G.T.builtins G.T.nolimit hg hobj hints (Nat.le_trans hlen hn2) hr hF hb (fun H hO hS => hsp w H a ns hlen hO hS) fun H e s' => hCX w H s₁ e s'
end L2
namespace L2
open PySem PySem.Spec PyProof.Rows
def defArgs (s : Stmt) : Arguments := match s with
  | .FunctionDef _ a _ _ _ _ _ _ _ _ => a
  | _ => { posonlyargs := [], args := [], vararg := none, kwonlyargs := [], kw_defaults := [], kwarg := none, defaults := [] }
def defBody (s : Stmt) : List Stmt := match s with
  | .FunctionDef _ _ b _ _ _ _ _ _ _ => b
  | _ => []
def defScope (s : Stmt) : Scope := match s with
  | .FunctionDef _ _ _ _ _ _ sc _ _ _ => sc
  | _ => { kind := .function, names := [], isGenerator := false, isCoroutine := false }
abbrev CX0 : CXT := fun _ _ _ _ _ _ => False
abbrev E0 : XK := fun _ _ _ => False
theorem pass0 {X : Cx} : Passes CX0 X E0 := fun _ _ _ _ _ _ _ h => h.elim
structure Fun (K : PySem.W.Frag) (x qual : Str) (st : Stmt) (f : Addr) (fd : FuncData) : Prop where
  ex : ∃ (oc : Value) (od : Option Addr) (kV doc pm : Value) (an : Option Addr) (cdv ct : Value) (osl : Array (Option Value)),
    fd = PySem.W.fnOf x qual (defArgs st) (defBody st) (defScope st) .none kV doc pm an cdv ct ∧ K.lookup f = some ⟨oc, od, .func fd, osl⟩ ∧ PySem.W.codeIn K cdv qual = true
  kp : PySem.W.keepIn K (.ref f) = true
section
variable {P : Program} {w : World} {K : PySem.W.Frag} {mg : Str → Option Value} {base : Heap}
theorem Fun.ok {x qual : Str} {st : Stmt} {f : Addr} {fd : FuncData} {N ps : List Str} {k : Nat} {sp : Sp} (F : Fun K x qual st f fd) (S : FnScope N ps (defScope st)) (len : ∀ vs H Q E, sp vs H Q E → vs.length = ps.length)
    (hbody : ∀ (cdv : Value) (A : Around) (outer : List Env) (s : Shared) (H : Hp) (vs : List V) (Q : VK) (E : XK), Room k (A.deeper (envOfC qual (defScope st) s.heap.objs.size f cdv)) → sp vs H Q E →
      ∃ t, PSs (cxOf CX0 P w K mg base N qual (defScope st) f cdv A outer s H E).nox (defBody st) t ∧ t { nx := fun _ H' => Q .non H', rt := Q } (start N vs) H) : FnOk P w K mg base CX0 (k + 1) f fd ps sp := by
  obtain ⟨oc, od, kV, doc, pm, an, cdv, ct, osl, rfl, lk, hcd⟩ := F.ex
  refine fn_of lk hcd S len fun A outer s H vs Q E hr hsp => ?_
  obtain ⟨t, h, q⟩ := hbody cdv A outer s H vs Q E hr hsp
  exact ⟨t, h.nox, q⟩
theorem Fun.binds {x qual : Str} {st : Stmt} {f : Addr} {fd : FuncData} {ps : List Str} (F : Fun K x qual st f fd)
    (h : ∀ (kV doc pm : Value) (an : Option Addr) (cdv ct : Value) (us : List Value), us.length = ps.length → bindArgs (PySem.W.fnOf x qual (defArgs st) (defBody st) (defScope st) .none kV doc pm an cdv ct) ⟨us, []⟩ = pure (ps.zip us)) : Binds K fd ps [] := by
  obtain ⟨oc, od, kV, doc, pm, an, cdv, ct, osl, rfl, lk, hcd⟩ := F.ex
  exact .all (h kV doc pm an cdv ct)
theorem fun_mk {x qual : Str} {st : Stmt} {f : Addr} {oc : Value} {od an : Option Addr} {osl : Array (Option Value)} {kV doc pm cdv ct : Value} (l : K.lookup f = some ⟨oc, od, .func (PySem.W.fnOf x qual (defArgs st) (defBody st) (defScope st) .none kV doc pm an cdv ct), osl⟩)
    (c : PySem.W.codeIn K cdv qual = true) (k : PySem.W.keepIn K (.ref f) = true) : Fun K x qual st f (PySem.W.fnOf x qual (defArgs st) (defBody st) (defScope st) .none kV doc pm an cdv ct) := ⟨⟨oc, od, kV, doc, pm, an, cdv, ct, osl, rfl, l, c⟩, k⟩
end
theorem hu_of {A : Around} {k : Nat} (hr : Room k A) : A.units + 1 < cLine := Nat.lt_of_le_of_lt (Nat.add_le_add_left (by decide : 1 ≤ 64) _) hr.units
section
variable {X : Cx}
theorem pv (i : Nat) {x : Str} {pos : Pos} (hN : X.N[i]? = some x := by rfl) (hv : Vis X.env.scope x := by first | exact Or.inl rfl | exact Or.inr (Or.inl rfl) | exact Or.inr (Or.inr rfl)) (hd : (x == ("__debug__" : Str)) = false := by decide)
    (hcd : (x == ("__classdict__" : Str)) = false := by decide) : PE X (.Name x pos) (tVar i) := pe_var hN hv hd hcd
end
theorem iteF {A B : Prop} (h : B) : if false = true then A else B := by
  rw [if_neg Bool.false_ne_true]
  exact h
theorem iteT {A B : Prop} (h : A) : if true = true then A else B := by
  rw [if_pos rfl]
  exact h
theorem ite2 {c A B : Prop} [Decidable c] (h1 : c → A) (h2 : ¬ c → B) : if c then A else B := by
  by_cases h : c
  · rw [if_pos h]
    exact h1 h
  · rw [if_neg h]
    exact h2 h
def Same (H H' : Hp) : Prop := ∀ b o, H b = some o → H' b = some o
theorem Same.refl (H : Hp) : Same H H := fun _ _ h => h
theorem Same.trans {H H1 H2 : Hp} (a : Same H H1) (b : Same H1 H2) : Same H H2 := fun c o h => b c o (a c o h)
theorem Same.free {H H' : Hp} (e : Same H H') {l : Addr} (h : H' l = Option.none) : H l = Option.none := by
  cases q : H l with
  | none => rfl
  | some o =>
    rw [e l o q] at h
    cases h
theorem Same.seq {K : PySem.W.Frag} {H H' : Hp} {a : Addr} {xs : List V} (e : Same H H') (h : SqL K H a xs) : SqL K H' a xs := by
  rcases h with (h | ⟨o, h⟩) | h
  · exact .inl (.inl (e _ _ h))
  · exact .inl (.inr ⟨o, e _ _ h⟩)
  · exact .inr h
end L2
namespace L2
open PySem
theorem closure_aux {env : Env} : ∀ (names : List (Str × NameKind)) (init : List (Str × Addr)), (∀ n k, (n, k) ∈ names → k = .free → ∃ c, env.cells.lookup n = some c) →
    (∀ n c, init.lookup n = some c → env.cells.lookup n = some c) →
    ∃ cl, (forIn names init fun (x : Str × NameKind) (cs : List (Str × Addr)) => (match x with
      | (name, kind) => if (kind == NameKind.free) = true then (do let a ← cellOf env name; pure (ForInStep.yield ((name, a) :: cs))) else pure (ForInStep.yield cs) : Sem (ForInStep (List (Str × Addr))))) = (pure cl : Sem (List (Str × Addr))) ∧
      (∀ n c, cl.lookup n = some c → env.cells.lookup n = some c) ∧ (∀ n, (n, NameKind.free) ∈ names ∨ (∃ c, init.lookup n = some c) → ∃ c, cl.lookup n = some c)
  | [], init, _, h1 => ⟨init, rfl, h1, fun n h => by rcases h with h | h; cases h; exact h⟩
  | (nm, k) :: r, init, h0, h1 => by
    by_cases hk : k = .free
    · obtain ⟨c, hc⟩ := h0 nm k List.mem_cons_self hk
      have h1' : ∀ n c', ((nm, c) :: init).lookup n = some c' → env.cells.lookup n = some c' := fun n c' e => by
        rw [List.lookup_cons] at e
        split at e
        · rename_i he
          have : n = nm := by simpa using he
          subst this; cases e; exact hc
        · exact h1 n c' e
      obtain ⟨cl, e1, e2, e3⟩ := closure_aux r ((nm, c) :: init) (fun n k' hm => h0 n k' (List.mem_cons_of_mem _ hm)) h1'
      refine ⟨cl, ?_, e2, fun n hn => e3 n ?_⟩
      · rw [List.forIn_cons]
        subst hk
        have : cellOf env nm = pure c := by unfold cellOf; rw [hc]
        simp only [this]
        exact e1
      · rcases hn with hn | ⟨c', hn⟩
        · rcases List.mem_cons.mp hn with e | e
          · cases e
            exact .inr ⟨c, by simp [List.lookup_cons]⟩
          · exact .inl e
        · right
          rw [List.lookup_cons]
          split
          · exact ⟨_, rfl⟩
          · exact ⟨c', hn⟩
    · obtain ⟨cl, e1, e2, e3⟩ := closure_aux r init (fun n k' hm => h0 n k' (List.mem_cons_of_mem _ hm)) h1
      refine ⟨cl, ?_, e2, fun n hn => e3 n ?_⟩
      · rw [List.forIn_cons]
        have : (k == NameKind.free) = false := by simpa using hk
        simp only [this]
        exact e1
      · rcases hn with hn | hn
        · rcases List.mem_cons.mp hn with e | e
          · cases e; exact absurd rfl hk
          · exact .inl e
        · exact .inr hn
theorem closure_some {scope : Scope} {env : Env} (h : ∀ n, (n, NameKind.free) ∈ scope.names → ∃ c, env.cells.lookup n = some c) :
    ∃ cl, closureFor scope env = pure cl ∧ (∀ n c, cl.lookup n = some c → env.cells.lookup n = some c) ∧ (∀ n, (n, NameKind.free) ∈ scope.names → ∃ c, cl.lookup n = some c) := by
  obtain ⟨cl, e1, e2, e3⟩ := closure_aux (env := env) scope.names [] (fun n k hm hk => h n (hk ▸ hm)) (fun n c e => by cases e)
  refine ⟨cl, ?_, e2, fun n hn => e3 n (.inl hn)⟩
  have e : closureFor scope env = ((forIn scope.names ([] : List (Str × Addr)) fun (x : Str × NameKind) (cs : List (Str × Addr)) => (match x with
      | (name, kind) => if (kind == NameKind.free) = true then (do let a ← cellOf env name; pure (ForInStep.yield ((name, a) :: cs))) else pure (ForInStep.yield cs) : Sem (ForInStep (List (Str × Addr))))) >>= fun r => pure r) := rfl
  rw [e, e1]
  rfl
end L2
namespace L2
open PySem PySem.Spec PyProof.Rows
section
variable {X : Cx} {pins : List (Addr × Obj)} {σ : St} {H : Hp} {s : Shared}
theorem Inv.track {p : Addr} {o : HO} (I : Inv X pins σ H s) (f : FpOk X pins H p) (new : ObjOk X.prog X.w (upd H p o) s.heap p o) : Inv X pins σ (upd H p o) s := by
  obtain ⟨f0, f1, f2, f3, f4, f5⟩ := f
  have nit : ∀ b u, H b = some u → b ≠ p := fun b u e z => by rw [z, f0] at e; cases e
  refine I.step (h' := s.heap) (g' := s.gens) (d' := s.drawn) (t' := s.toks) (ch := [p]) (fun b hb => ?_) (fun b o _ _ _ e _ => e) (fun b o _ _ _ e _ => ⟨o.slots, e⟩)
    (fun b o hc e n => by rw [upd_ne (fun z => hc (by simp [z]))]; exact n) (fun b o _ e => ⟨o, e⟩) (fun b xs e => by rw [upd_ne (nit b _ e)]; exact e) (fun b o u e => by rw [upd_ne (nit b _ e)]; exact e)
    (fun b ps e => ⟨#[], by rw [upd_ne (nit b _ e), e]; simp⟩) (fun m hm => hm) (fun b u e => ?_) I.bare
  · have e : b = p := by simpa using hb
    subst e
    exact ⟨f3, f1, f4, f5⟩
  · by_cases hb : b = p
    · subst hb; rw [upd_same] at e; cases e; exact new
    · rw [upd_ne hb] at e
      exact (I.hok b u e).stay (fun c v _ q => q) (fun c q => by rw [upd_ne (nit c _ q)]; exact q) fun c xs q => by rw [upd_ne (nit c _ q)]; exact q
end
section
variable {prog : Program} {w : World} {A : Around} {R : Result → Shared → Prop} {s : Shared}
theorem compLoop_any {elt target iter : Expr} {ifs : List Expr} {scope : Scope} {pos : Pos} {it acc : Value} {env : Env} (I : Nat → Shared → Prop)
    (turn : ∀ n s, I n s → wpAny (model prog w) A (pyNext it) (fun r s₁ => match r with
      | none => R (.ok .next) s₁
      | some v => wpAny (model prog w) A (letOwnedTupleGo target it v) (fun _ s₁' => wpAny (model prog w) A (assign target env v) (fun _ s₂ =>
          wpAny (model prog w) A (forIn ifs true fun c r => if r = true then do let ok ← isTrue c env (eval c env); pure (ForInStep.yield ok) else pure (ForInStep.yield r)) (fun ok s₃ =>
            if ok = true then wpAny (model prog w) A (eval elt env) (fun x s₄ =>
              wpAny (model prog w) A (call (.builtin "list.append") [acc, x]) (fun _ s₅ => ∃ m, m < n ∧ I m s₅) (fun _ _ => False) s₄) (fun _ _ => False) s₃
            else ∃ m, m < n ∧ I m s₃) (fun _ _ => False) s₂) (fun _ _ => False) s₁') (fun _ _ => False) s₁) (fun _ _ => False) s)
    (n : Nat) (h : I n s) : codeAny (model prog w) A (.compLoop (.ListComp elt [⟨target, iter, ifs, 0⟩] scope pos) 0 it acc env) R s := by
  refine codeAny_loop rfl I (fun n s hI => ?_) n h
  show wpAny _ A ((compTurn (.ListComp elt [⟨target, iter, ifs, 0⟩] scope pos) 0 it acc env).onRaise (fun x => do noteFrame x env; theTreesLotGoes x)) _ _ s
  refine wpAny_noted (wpAny_noRaise ?_)
  rw [compTurn_list]
  refine wpAny_bind (wpAny_standAt (wpAny_bind (wpAny_mono (turn n s hI) (fun r s₁ h₁ => ?_) fun _ _ h' => h')))
  cases r with
  | none => exact wpAny_pure h₁
  | some v =>
    refine wpAny_bind (wpAny_mono h₁ (fun _ s₁' h₁' => ?_) fun _ _ h' => h')
    refine wpAny_bind (wpAny_mono h₁' (fun _ s₂ h₂ => wpAny_bind (wpAny_mono h₂ (fun ok s₃ h₃ => ?_) fun _ _ h' => h')) fun _ _ h' => h')
    cases ok with
    | false => exact wpAny_pure ⟨rfl, h₃⟩
    | true =>
      exact wpAny_bind (wpAny_bind (wpAny_mono h₃ (fun x s₄ h₄ => wpAny_bind (wpAny_mono h₄ (fun _ s₅ h₅ => wpAny_pure (wpAny_pure ⟨rfl, h₅⟩)) fun _ _ h' => h')) fun _ _ h' => h'))
end
def blk (X : Cx) (N : List Str) (scope : Scope) (cl : List (Str × Addr)) (C : Addr) (s : Shared) (H : Hp) (fp : List Addr) : Cx :=
  { X with N := N, s₀ := s, H₀ := H, env := compEnvC scope cl C X.env, outer := X.stack, ex := fp, fn := fun _ => false, pn := [], xe := fun _ _ => False }
def PTs (X : Cx) (ifs : List Expr) (t : TT) : Prop :=
  ∀ (pins : List (Addr × Obj)) (s : Shared) (σ : St) (H : Hp) (Q : Bool → Hp → Prop), Inv X pins σ H s → t σ H Q →
    wpAny (model X.prog X.w) X.A (forIn ifs true fun c r => if r = true then do let ok ← isTrue c X.env (eval c X.env); pure (ForInStep.yield ok) else pure (ForInStep.yield r)) (TP X pins σ Q) X.xe s
def tYes : TT := fun _ H Q => Q true H
theorem pts_nil {X : Cx} : PTs X [] tYes := fun _ _ _ H _ I h => wpAny_tests_nil ⟨H, I, h⟩
def capSt (nt : Nat) (caps : List Nat) (σ : St) : St := List.replicate nt none ++ caps.map fun j => (σ[j]?).join
def GKeep (nt : Nat) (g : TG) : Prop := ∀ (v : V) (cs : St) (H : Hp) (Q : St → Hp → Prop), g v (List.replicate nt none ++ cs) H Q →
  g v (List.replicate nt none ++ cs) H fun σ' H' => (∀ (j : Nat) (u : V), (List.replicate nt none ++ cs)[j]? = some (some u) → σ'[j]? = some (some u)) ∧ Q σ' H'
theorem gk_name : GKeep 1 (gName 0) := by
  intro v cs H Q h
  refine ⟨fun j u e => ?_, h⟩
  cases j with
  | zero => simp at e
  | succ j => simpa using e
def tComp (nt : Nat) (caps : List Nat) (wi : TI) (g : TG) (tt : TT) (te : TE) : TE := fun σ H Q => wi σ H fun J H1 =>
  ∃ W : Nat → Nat → List V → Hp → Prop, (∃ m, W 0 m [] H1) ∧ ∀ i m ys H2, W i m ys H2 →
    (J.stop i H2 ∧ ys.length ≤ sizeLine ∧ ∀ p, H2 p = none → Q (.ref p) (upd H2 p (.lst ys))) ∨
    (J.go i H2 ∧ ys.length < sizeLine ∧ ∀ x H3, J.yld i H2 x H3 → g x (capSt nt caps σ) H3 fun σ4 H4 => tt σ4 H4 fun b H5 =>
      if b = true then te σ4 H5 fun y H6 => ∃ m', m' < m ∧ W (i + 1) m' (ys ++ [y]) H6 else ∃ m', m' < m ∧ W (i + 1) m' ys H5)
structure CompOk (X : Cx) (N : List Str) (nt : Nat) (caps : List Nat) (scope : Scope) : Prop where
  cell : ∀ y ∈ scope.names, y.2 ≠ .cell
  kind : scope.kind = .function
  names : ∀ x ∈ scope.names, x.2 = .local → scope.names.lookup x.1 = some .local
  free : ∀ n, (n, NameKind.free) ∈ scope.names → X.env.kindOf n = some .cell ∨ X.env.kindOf n = some .free
  cap : ∀ (j i : Nat), caps[j]? = some i → ∃ x, X.N[i]? = some x ∧ N[nt + j]? = some x ∧ (x, NameKind.free) ∈ scope.names ∧ scope.names.lookup x = some .free
  len : N.length = nt + caps.length
theorem lookup_keyed {α : Type} (f : Str × α → Str × α) (hf : ∀ p, (f p).1 = p.1) : ∀ (l : List (Str × α)) (x : Str), (l.map f).lookup x = (l.lookup x).map fun k => (f (x, k)).2
  | [], _ => rfl
  | (n, k) :: r, x => by
    have ih := lookup_keyed f hf r x
    have e : f (n, k) = (n, (f (n, k)).2) := Prod.ext (hf (n, k)) rfl
    rw [List.map_cons, e, List.lookup_cons, List.lookup_cons]
    split
    · rename_i h
      have : x = n := by simpa using h
      subst this
      rfl
    · exact ih
theorem lookup_mem {α : Type} : ∀ {l : List (Str × α)} {x : Str} {k : α}, l.lookup x = some k → (x, k) ∈ l
  | [], _, _, h => by cases h
  | (n, q) :: r, x, k, h => by
    rw [List.lookup_cons] at h
    split at h
    · rename_i e
      have : x = n := by simpa using e
      subst this
      cases h
      exact List.mem_cons_self
    · exact List.mem_cons_of_mem _ (lookup_mem h)
theorem relabel_kind {scope : Scope} {env : Env} {x : Str} (hc : ∀ y ∈ scope.names, y.2 ≠ .cell) {k : NameKind} (h : (relabel scope env).names.lookup x = some k) (hk : k = .cell ∨ k = .free) : (x, NameKind.free) ∈ scope.names := by
  unfold relabel at h
  dsimp only at h
  rw [lookup_keyed _ (fun p => by obtain ⟨n, k⟩ := p; dsimp only; split <;> rfl)] at h
  cases hl : scope.names.lookup x with
  | none => rw [hl] at h; cases h
  | some q =>
    rw [hl] at h
    have m := lookup_mem hl
    by_cases hq : q = .free
    · rw [← hq]; exact m
    · exfalso
      have hb : (q == NameKind.free) = false := by simpa using hq
      simp only [Option.map_some, hb, Bool.false_and, Bool.false_eq_true, if_false, Option.some.injEq] at h
      rcases hk with z | z
      · exact hc _ m (h.trans z)
      · exact hq (h.trans z)
theorem relabel_free {scope : Scope} {env : Env} {x : Str} (h : scope.names.lookup x = some .free) : (relabel scope env).names.lookup x ≠ some .local := by
  intro q
  unfold relabel at q
  dsimp only at q
  rw [lookup_keyed _ (fun p => by obtain ⟨n, k⟩ := p; dsimp only; split <;> rfl), h] at q
  dsimp only [Option.map] at q
  split at q <;> cases q
def compOkB (sc : Scope) (NX N : List Str) (nt : Nat) (caps : List Nat) (scope : Scope) : Bool :=
  scope.names.all (fun y => !(y.2 == .cell)) && scope.kind == .function && scope.names.all (fun y => !(y.2 == .local) || scope.names.lookup y.1 == some .local)
  && scope.names.all (fun y => !(y.2 == .free) || sc.names.lookup y.1 == some .cell || sc.names.lookup y.1 == some .free)
  && (List.range caps.length).all (fun j => match NX[caps.getD j 0]? with
    | some x => N[nt + j]? == some x && scope.names.any (fun y => y.1 == x && y.2 == .free) && scope.names.lookup x == some .free
    | none => false)
  && N.length == nt + caps.length
theorem comp_ok {X : Cx} {N : List Str} {nt : Nat} {caps : List Nat} {scope : Scope} (h : compOkB X.env.scope X.N N nt caps scope = true := by rfl) : CompOk X N nt caps scope := by
  unfold compOkB at h
  simp only [Bool.and_eq_true, List.all_eq_true, Bool.or_eq_true, Bool.not_eq_true', beq_iff_eq, beq_eq_false_iff_ne, ne_eq] at h
  obtain ⟨⟨⟨⟨⟨h1, h2⟩, h3⟩, h4⟩, h5⟩, h6⟩ := h
  refine ⟨fun y hy => h1 y hy, h2, fun y hy e => (h3 y hy).resolve_left fun z => z e, fun n hn => ?_, fun j i e => ?_, h6⟩
  · rcases h4 (n, .free) hn with (z | z) | z
    · exact absurd rfl z
    · exact .inl z
    · exact .inr z
  · obtain ⟨hj, e'⟩ := List.getElem?_eq_some_iff.mp e
    have q := h5 j (List.mem_range.mpr hj)
    have eg : caps.getD j 0 = i := by rw [List.getD_eq_getElem?_getD, e]; rfl
    rw [eg] at q
    cases hx : X.N[i]? with
    | none => rw [hx] at q; cases q
    | some x =>
      rw [hx] at q
      simp only [Bool.and_eq_true, beq_iff_eq, List.any_eq_true] at q
      obtain ⟨⟨q1, y, hy, e1, e2⟩, q3⟩ := q
      refine ⟨x, rfl, q1, ?_, q3⟩
      obtain ⟨n, k⟩ := y
      cases e1; cases e2
      exact hy
section
variable {X : Cx} {tg iter elt : Expr} {ifs : List Expr} {scope : Scope} {pos : Pos} {N : List Str} {nt : Nat} {caps : List Nat} {wi : TI} {g : TG} {tt : TT} {te : TE} {cl : List (Str × Addr)}
theorem comp_run {pins : List (Addr × Obj)} {σ : St} {H : Hp} {s : Shared} {it : Addr} {fp : List Addr} {tn : Nat → Heap → Prop} {J : It} {RR : Value → Addr → Result → Shared → Prop} {E : Value → Shared → Prop}
    (ok : CompOk X N nt caps scope) (hc : X.calm = true) (h1 : ∀ n c, cl.lookup n = some c → X.env.cells.lookup n = some c) (h2 : ∀ n, (n, NameKind.free) ∈ scope.names → ∃ c, cl.lookup n = some c)
    (hg : ∀ cl C s H fp, PG (blk X N scope cl C s H fp) tg g) (hgk : GKeep nt g) (ht : ∀ cl C s H fp, PTs (blk X N scope cl C s H fp) ifs tt) (he : ∀ cl C s H fp, PE (blk X N scope cl C s H fp) elt te)
    (I : Inv X pins σ H s) (T : Turn X.prog X.w X.K tg J fp it tn) (st : tn 0 s.heap) (hf : ∀ b ∈ fp, FpOk X pins H b)
    (W : Nat → Nat → List V → Hp → Prop) (Z : List V → Hp → Prop) (m0 : Nat) (w0 : W 0 m0 [] H)
    (turn : ∀ i m ys H2, W i m ys H2 → (J.stop i H2 ∧ Z ys H2) ∨
      (J.go i H2 ∧ ys.length < sizeLine ∧ ∀ x H3, J.yld i H2 x H3 → g x (capSt nt caps σ) H3 fun σ4 H4 => tt σ4 H4 fun b H5 =>
        if b = true then te σ4 H5 fun y H6 => ∃ m', m' < m ∧ W (i + 1) m' (ys ++ [y]) H6 else ∃ m', m' < m ∧ W (i + 1) m' ys H5))
    (hRR : ∀ (C : Addr) (s' : Shared) (ys : List V) (its : List Value) (n : Nat) (H' : Hp), s.heap.objs.size < C → Vals ys its → Inv (blk X N scope cl C s H fp) [] (capSt nt caps σ) H' s' →
      s'.heap.get? s.heap.objs.size = some { cls := .type "list", data := .seq its.toArray n } → H' s.heap.objs.size = none → Z ys H' → RR (.ref s.heap.objs.size) C (.ok .next) s') :
    wpAny (model X.prog X.w) X.A (newList []) (fun acc s₃ => wpAny (model X.prog X.w) X.A (newFunctionEnv scope X.env.globals cl [] X.env.qual none .none (some X.env)) (fun cenv s₄ =>
      codeAny (model X.prog X.w) X.A (.compStart (.ListComp elt [⟨tg, iter, ifs, 0⟩] scope pos) 0 (.ref it) acc { cenv with scope := relabel scope X.env }) (RR acc cenv.locals) s₄) E s₃) E s := by
  refine wpAny_newObj_type (wpAny_newFunctionEnv ok.cell (by intro y hy; simp at hy) (fun h₁ hns₁ hsb₁ => ?_) ok.kind)
  dsimp only at hns₁ hsb₁ ⊢
  generalize hG : s.heap.push { cls := .type "list", dict := none, data := .seq ([] : List Value).toArray } = G at hns₁ hsb₁ ⊢
  have hC : G.objs.size = s.heap.objs.size + 1 := by rw [← hG, Heap.size_push]
  have hDC : s.heap.objs.size ≠ G.objs.size := by rw [hC]; exact Nat.ne_of_lt (Nat.lt_succ_self _)
  have hlt : s.heap.objs.size < G.objs.size := by rw [hC]; exact Nat.lt_succ_self _
  have old : ∀ b o, s.heap.get? b = some o → h₁.get? b = some o := fun b o e =>
    hsb₁.extBut b o (Nat.ne_of_lt (Nat.lt_trans (Heap.lt_size e) hlt)) (Heap.get?_push_of_some _ (hG ▸ Heap.get?_push_of_some _ e))
  have hacc : h₁.get? s.heap.objs.size = some { cls := .type "list", data := .seq ([] : List Value).toArray 0 } := hsb₁.extBut _ _ hDC (Heap.get?_push_of_some _ (hG ▸ Heap.get?_push_size _ rfl))
  have fpD : ∀ b ∈ fp, b < s.heap.objs.size := fun b hb => by
    obtain ⟨o, e, _⟩ := T.obj _ _ st b hb
    exact Heap.lt_size e
  have celt : ∀ n c, cl.lookup n = some c → c < s.heap.objs.size := fun n c e => by
    obtain ⟨v, q⟩ := I.cell n c (h1 n c e)
    exact q.lt
  have YOk : (blk X N scope cl G.objs.size s H fp).Ok := by
    refine ⟨I.ok.mod, ok.kind, I.ok.glob, I.ok.blt, Nat.le_of_lt hlt, fun x y c e e' => I.ok.inj x y c (h1 x c e) (h1 y c e'), fun x hx => ?_, fun x c hx _ => (nomatch hx), I.ok.hd, I.ok.frames, .inl rfl,
      fun b hb => ⟨Nat.ne_of_lt (Nat.lt_trans (fpD b hb) hlt), fun x c e z => ?_⟩, fun b o e => I.bs b o e, Nat.le_trans I.ok.bsz I.sz, fun b o e hb => ?_, fun b hb hz => ?_, I.stack, I.stkFree⟩
    · rcases hx with hx | hx
      · exact h2 x (relabel_kind ok.cell hx (.inl rfl))
      · exact h2 x (relabel_kind ok.cell hx (.inr rfl))
    · exact (hf b hb).2.2.2.2.1 x c (h1 x c e) z
    · rcases (hf b hb).2.2.2.1 with z | z
      · exact I.ok.noex b o e z
      · exact absurd (Nat.lt_of_lt_of_le (Heap.lt_size e) (Nat.le_trans I.ok.bsz z)) (Nat.lt_irrefl _)
    · rcases List.mem_cons.mp (I.stkSub b hz) with z | z
      · exact (hf b hb).2.1 z
      · exact (hf b hb).2.2.1 z
  have lenb : (capSt nt caps σ).length = N.length := by rw [ok.len]; simp [capSt]
  have IY : Inv (blk X N scope cl G.objs.size s H fp) [] (capSt nt caps σ) H { s with heap := h₁, toks := s.toks + ([] : List (Str × Value)).length } := by
    refine ⟨YOk, rfl, I.bare, Un.kept old, ⟨_, hns₁, fun i x v e1 e2 e3 => ?_⟩, fun x c e => ?_, I.hok.fresh (Nat.le_of_lt hlt), fun x c e => I.freeC x c (h1 x c e), fun p hp => (nomatch hp), I.hok.kept old, lenb⟩
    · have hi : nt ≤ i := by
        rcases Nat.lt_or_ge i nt with z | z
        · exfalso
          unfold capSt at e2
          rw [List.getElem?_append_left (by simpa using z), List.getElem?_replicate] at e2
          split at e2 <;> cases e2
        · exact z
      unfold capSt at e2
      rw [List.getElem?_append_right (by simpa using hi), List.length_replicate, List.getElem?_map] at e2
      cases ej : caps[i - nt]? with
      | none => rw [ej] at e2; cases e2
      | some j =>
        rw [ej] at e2
        have e2' : (σ[j]?).join = some v := by simpa using e2
        have e2'' : σ[j]? = some (some v) := by
          cases q : σ[j]? with
          | none => rw [q] at e2'; cases e2'
          | some z => rw [q] at e2'; simp at e2'; rw [e2']
        obtain ⟨y, y1, y2, y3, y4⟩ := ok.cap _ _ ej
        have : nt + (i - nt) = i := by omega
        rw [this] at y2
        have e1' : N[i]? = some x := e1
        rw [e1'] at y2
        cases y2
        obtain ⟨m, hn, hl⟩ := I.loc
        have kx := ok.free x y3
        have vx : Vis X.env.scope x := by
          rcases kx with z | z
          · exact .inr (.inl z)
          · exact .inr (.inr z)
        obtain ⟨u, r, l⟩ := hl j x v y1 e2'' vx
        refine ⟨u, r, .inr ⟨?_, ?_⟩⟩
        · rcases e3 with z | z | z
          · exact absurd z (relabel_free y4)
          · exact .inl z
          · exact .inr z
        · obtain ⟨c, hcl⟩ := h2 x y3
          refine ⟨c, hcl, ?_⟩
          rcases l with ⟨k, _⟩ | ⟨_, c', hc', o, ho, hd⟩
          · rcases kx with z | z <;> (rw [z] at k; cases k)
          · have : c = c' := Option.some.inj ((h1 x c hcl).symm.trans hc')
            subst this
            exact ⟨o, old c o ho, hd⟩
    · obtain ⟨v, o, ho, hd⟩ := I.cell x c (h1 x c e)
      exact ⟨v, o, old c o ho, hd⟩
  -- the loop
  have stat : ∀ {pn : List (Addr × Obj)} {H' : Hp}, (∀ b ∈ fp, H' b = none) → (∀ p ∈ pn, s.heap.objs.size ≤ p.1) → ∀ b ∈ fp, FpOk (blk X N scope cl G.objs.size s H fp) pn H' b := fun {pn H'} hn hpn b hb =>
    ⟨hn b hb, Nat.ne_of_lt (Nat.lt_trans (fpD b hb) hlt), fun hz => (YOk.exfs b hb hz).elim, .inl hb, fun x c e z => (hf b hb).2.2.2.2.1 x c (h1 x c e) z, fun p hp z => by
      have hp' : p ∈ pn := by simpa [blk] using hp
      have := hpn p hp'
      rw [z] at this
      exact absurd (Nat.lt_of_lt_of_le (fpD b hb) this) (Nat.lt_irrefl _)⟩
  have hDf : s.heap.objs.size ∉ fp := fun hm => Nat.lt_irrefl _ (fpD _ hm)
  have hDs : s.heap.objs.size ∉ frs X.stack := fun hm => by
    rcases List.mem_cons.mp (I.stkSub _ hm) with z | z
    · exact absurd I.lt (by rw [← z]; exact Nat.lt_irrefl _)
    · exact I.nofs (Nat.le_refl _) z
  have loop : ∀ s₃ : Shared, s₃ = { s with heap := h₁, toks := s.toks + ([] : List (Str × Value)).length } →
      codeAny (model X.prog X.w) X.A (.compLoop (.ListComp elt [⟨tg, iter, ifs, 0⟩] scope pos) 0 (.ref it) (.ref s.heap.objs.size) (compEnvC scope cl G.objs.size X.env)) (RR (.ref s.heap.objs.size) G.objs.size) s₃ := by
    rintro s₃ rfl
    refine compLoop_any (fun n s' => ∃ i ys its k H', Inv (blk X N scope cl G.objs.size s H fp) [] (capSt nt caps σ) H' s' ∧ tn i s'.heap ∧ (∀ b ∈ fp, H' b = none) ∧ Vals ys its ∧
      s'.heap.get? s.heap.objs.size = some { cls := .type "list", data := .seq its.toArray k } ∧ H' s.heap.objs.size = none ∧ ys.length ≤ sizeLine ∧ W i n ys H') ?_ m0
      ⟨0, [], [], 0, H, IY, T.keep _ _ _ st fun b hb o e => old b o e, fun b hb => (hf b hb).1, .nil, hacc, I.hok.fresh (Nat.le_refl _), Nat.zero_le _, w0⟩
    rintro n s3 ⟨i, ys, its, k, H3, I3, st3, fr3, v3, a3, n3, z3, w3⟩
    have I3p : Inv (blk X N scope cl G.objs.size s H fp) [(s.heap.objs.size, { cls := .type "list", data := .seq its.toArray k })] (capSt nt caps σ) H3 s3 := I3.pins_of fun p hp => by
      have e : p = (s.heap.objs.size, { cls := .type "list", data := .seq its.toArray k }) := by simpa using hp
      subst e
      exact ⟨a3, n3, hDC, hDs, fun v z => by cases z⟩
    have pn3 : ∀ p ∈ [(s.heap.objs.size, ({ cls := .type "list", data := .seq its.toArray k } : Obj))], s.heap.objs.size ≤ p.1 := fun p hp => by
      have e : p = (s.heap.objs.size, { cls := .type "list", data := .seq its.toArray k }) := by simpa using hp
      subst e
      exact Nat.le_refl _
    rcases turn i n ys H3 w3 with ⟨stop, zz⟩ | ⟨go, hlen, step⟩
    · refine thn (T.done (blk X N scope cl G.objs.size s H fp) rfl rfl rfl hc i _ s3 _ H3 _ I3p (stat fr3 pn3) st3 stop) fun r s4 ⟨hr, I4⟩ => ?_
      subst hr
      have a4 := I4.pin (s.heap.objs.size, { cls := .type "list", data := .seq its.toArray k }) (List.mem_append_right _ (by simp))
      exact hRR _ s4 ys its k H3 hlt v3 (I4.pins_of fun _ hp => nomatch hp) a4.1 n3 zz
    · refine thn (T.item (blk X N scope cl G.objs.size s H fp) rfl rfl rfl hc i _ s3 _ H3 _ I3p (stat fr3 pn3) st3 go) fun r s4 ⟨u, hr, h4⟩ => ?_
      subst hr
      refine thn h4 fun _ s5 ⟨x, H5, I5, r5, y5, st5, fr5⟩ => ?_
      have I5' := I5.pinned (stat fr5 pn3) (T.obj _ _ st5)
      refine thn (hg _ _ _ _ _ _ s5 _ H5 x u _ I5' r5 (hgk _ _ _ _ (step x H5 y5))) fun _ s6 ⟨σ6, H6, I6, kp6, q6⟩ => ?_
      refine thn (ht _ _ _ _ _ _ s6 σ6 H6 _ I6 q6) fun b s7 ⟨H7, I7, q7⟩ => ?_
      have back : ∀ {H8 : Hp} {s8 : Shared}, Inv (blk X N scope cl G.objs.size s H fp) ([(s.heap.objs.size, ({ cls := .type "list", data := .seq its.toArray k } : Obj))] ++ pinsAt fp s5.heap) σ6 H8 s8 →
          Inv (blk X N scope cl G.objs.size s H fp) [] (capSt nt caps σ) H8 s8 ∧ tn (i + 1) s8.heap ∧ (∀ b ∈ fp, H8 b = none) ∧ s8.heap.get? s.heap.objs.size = some { cls := .type "list", data := .seq its.toArray k } ∧ H8 s.heap.objs.size = none := fun {H8 s8} I8 => by
        have a8 := I8.pin (s.heap.objs.size, { cls := .type "list", data := .seq its.toArray k }) (List.mem_append_right _ (List.mem_append_left _ (by simp)))
        refine ⟨(I8.pins_of (pins' := []) fun _ hp => absurd hp (by simp)).weak (by rw [lenb, I8.len]; rfl) kp6, T.keep _ _ _ st5 fun b hb o e => (I8.pin (b, o) (List.mem_append_right _ (List.mem_append_right _ (mem_pinsAt hb e)))).1, fun b hb => ?_, a8.1, a8.2.1⟩
        obtain ⟨o, e, d⟩ := T.obj _ _ st5 b hb
        exact (I8.pin (b, o) (List.mem_append_right _ (List.mem_append_right _ (mem_pinsAt hb e)))).2.1
      cases b with
      | false =>
        rw [if_neg (by intro z; cases z)] at q7 ⊢
        obtain ⟨m', hm, w7⟩ := q7
        obtain ⟨b1, b2, b3, b4, b5⟩ := back I7
        exact ⟨m', hm, i + 1, ys, its, k, H7, b1, b2, b3, v3, b4, b5, z3, w7⟩
      | true =>
        rw [if_pos rfl] at q7 ⊢
        refine thn (he _ _ _ _ _ _ s7 σ6 H7 _ I7 q7) fun u8 s8 ⟨y, H8, I8, r8, m', hm, w8⟩ => ?_
        obtain ⟨b1, b2, b3, b4, b5⟩ := back I8
        have hl := v3.length
        refine call_meets F.slot_list_append ⟨_, b4, rfl⟩ F.entry_list_append (F.args_list_append_2 _ _) (PySem.list_append s.heap.objs.size its.toArray k u8 (by rw [List.size_toArray]; omega)) ⟨b4, ?_⟩
        have q := PySem.IsL.update (show PySem.IsL s8.heap s.heap.objs.size its.toArray k from b4) (fun x => x.push u8)
        have eq : its.toArray.push u8 = (its ++ [u8]).toArray := by simp
        rw [eq] at q
        have keep : ∀ b' o, b' ≠ s.heap.objs.size → s8.heap.get? b' = some o → (s8.heap.update s.heap.objs.size (Obj.mapSeq fun x => x.push u8)).get? b' = some o := fun b' o hb hu =>
          (Heap.get?_update_other s8.heap (Obj.mapSeq fun x => x.push u8) (Ne.symm hb)).trans hu
        refine ⟨m', hm, i + 1, ys ++ [y], its ++ [u8], _, H8, b1.turned (t' := s8.toks) keep b5 hDC (.inr (Nat.le_refl _)) (fun x c e z => ?_) (fun p hp => by simp [blk] at hp), T.keep _ _ _ b2 fun b hb o e => keep b o (fun z => hDf (z ▸ hb)) e, b3,
          v3.append (.cons r8 .nil), q, b5, ?_, w8⟩
        · exact absurd (celt x c e) (by rw [z]; exact Nat.lt_irrefl _)
        · rw [List.length_append, List.length_singleton]; omega
  exact codeAny_compStart_list (loop _ rfl) (T.self _ 0 _ _ _ (T.keep _ _ _ st fun b hb o e => old b o e) (loop _ rfl))
theorem comp_back {pins : List (Addr × Obj)} {σ : St} {H H' : Hp} {s s' : Shared} {fp : List Addr} {C : Addr} {ys : List V} {its : List Value} {n : Nat} {σb : St} {h' : Heap}
    (I : Inv X pins σ H s) (hf : ∀ b ∈ fp, FpOk X pins H b) (hC : s.heap.objs.size < C) (v : Vals ys its) (hz : ys.length ≤ sizeLine) (IY : Inv (blk X N scope cl C s H fp) [] σb H' s')
    (e : s'.heap.get? s.heap.objs.size = some { cls := .type "list", data := .seq its.toArray n }) (en : H' s.heap.objs.size = none) (hs : ∀ b o, b ≠ C → s'.heap.get? b = some o → h'.get? b = some o) :
    Inv X pins σ (upd H' s.heap.objs.size (.lst ys)) { s' with heap := h' } := by
  have hCn : H' C = none := IY.free
  have hok : HOk X.prog X.w H' h' := fun b u q => by
    have nC : ∀ c u', H' c = some u' → c ≠ C := fun c u' q' z => by rw [z, hCn] at q'; cases q'
    refine (IY.hok b u q).stay (fun c w' hc q' => hs c w' ?_ q') (fun _ q' => q') fun _ _ q' => q'
    rcases hc with z | z
    · rw [z]; exact nC b u q
    · exact nC c _ z
  have lt : ∀ b o, s.heap.get? b = some o → b ≠ C := fun b o q => Nat.ne_of_lt (Nat.lt_trans (Heap.lt_size q) hC)
  have u : Un (frs X.stack) fp H H' s.heap h' := ⟨fun b o q nn hb hx => hs b o (lt b o q) (IY.base.keep b o q nn hb hx), fun b o q nn hb hx => by
      obtain ⟨sl, q'⟩ := IY.base.slot b o q nn hb hx
      exact ⟨sl, hs b _ (lt b o q) q'⟩, IY.base.free, fun b o q hx => by
      obtain ⟨o', q'⟩ := IY.base.there b o q hx
      exact ⟨o', hs b o' (lt b o q) q'⟩, IY.base.tups, IY.base.frzs, IY.base.tbls⟩
  have I1 : Inv X pins σ H' { s' with heap := h' } := I.call' (s' := { s' with heap := h' }) (ch := fp) IY.os u hok IY.bare fun b hb => ⟨(hf b hb).2.2.2.1, (hf b hb).2.1, (hf b hb).2.2.2.2.1, (hf b hb).2.2.2.2.2⟩
  have hD : h'.get? s.heap.objs.size = some { cls := .type "list", data := .seq its.toArray n } := hs _ _ (Nat.ne_of_lt hC) e
  exact I1.track (by
    have f := I.fpOk (H' := H') (b := s.heap.objs.size) (Nat.le_refl _) en
    exact f) ⟨hz, its, n, v, hD⟩
theorem ps_comp {i : Nat} {y : Str} {py spos : Pos} (hN : X.N.Nodup) (hyi : X.N[i]? = some y) (hy : X.env.scope.names.lookup y = some .local) (hsw : swapsWith (.ListComp elt [⟨tg, iter, ifs, 0⟩] scope pos) (some (.Name y py)) spos.line X.env = pure true)
    (ok : CompOk X N nt caps scope) (hc : X.calm = true) (hi : PI X tg iter wi)
    (hg : ∀ cl C s H fp, PG (blk X N scope cl C s H fp) tg g) (hgk : GKeep nt g) (ht : ∀ cl C s H fp, PTs (blk X N scope cl C s H fp) ifs tt) (he : ∀ cl C s H fp, PE (blk X N scope cl C s H fp) elt te)
    (hs : ∀ x, foldedSetIterable iter X.env x = pure x := by intro _; rfl) : PS X (.Assign [.Name y py] (.ListComp elt [⟨tg, iter, ifs, 0⟩] scope pos) spos) (tAsg (tComp nt caps wi g tt te) (gName i)) := by
  intro pins s σ H D I h
  obtain ⟨cl, hcl, h1, h2⟩ := closure_some (scope := scope) (env := X.env) fun n hn => I.ok.has n (ok.free n hn)
  rw [exec_Assign_Name_used _ _ _ _ hsw]
  refine wpAny_bind (wpAny_standAt (wpAny_bind ?_))
  show wpAny _ X.A (do let _ ← comprehension (.ListComp elt [⟨tg, iter, ifs, 0⟩] scope pos) scope X.env _ (newList []) false (eval iter X.env) (some (assign (.Name y py) X.env))) _ _ s
  refine wpAny_bind (wpAny_mono (wpAny_comprehension_free (use := some (assign (.Name y py) X.env)) (Q := fun _ s' => SP X pins D .next s') rfl hs hcl ok.kind ok.names
    (thn (hi pins s σ H _ I h) fun xv s1 h1' => thn h1' fun itv s2 h2' => ?_)) (fun _ s' hq => wpAny_pure (wpAny_pure hq)) fun _ _ e => e)
  obtain ⟨it, fp, tn, J, H2, e, I2, T, st2, f2, W, ⟨m0, w0⟩, turn⟩ := h2'
  subst e
  refine comp_run (RR := fun acc C => compPost (model X.prog X.w) X.A X.xe (some (assign (.Name y py) X.env)) (fun _ s' => SP X pins D .next s') acc C) ok hc h1 h2 hg hgk ht he I2 T st2 f2 W
    (fun ys H' => ys.length ≤ sizeLine ∧ ∀ p, H' p = none → gName i (.ref p) σ (upd H' p (.lst ys)) D.nx) m0 w0 turn ?_
  intro C s' ys its n H' hC v IY e en zz
  obtain ⟨m, hn, _⟩ := IY.loc
  have I3 : Inv X pins σ (upd H' s2.heap.objs.size (.lst ys)) s' := comp_back (h' := s'.heap) I2 f2 hC v zz.1 IY e en fun b o hb q => q
  obtain ⟨o, es, ep, ho, r⟩ := id hn
  have fC : FpOk X pins (upd H' s2.heap.objs.size (.lst ys)) C := by
    have f := I2.fpOk (H' := H') (b := C) (Nat.le_of_lt hC) IY.free
    refine ⟨by rw [upd_ne (Ne.symm (Nat.ne_of_lt hC))]; exact IY.free, f.2⟩
  show wpAny (model X.prog X.w) X.A (assign (.Name y py) X.env (.ref s2.heap.objs.size)) (fun _ s'' => ∃ m, s''.heap.Ns C m ∧ ∀ h', Heap.SameBut C s''.heap h' → SP X pins D .next { s'' with heap := h' }) X.xe s'
  have I3p : Inv X (pins ++ [(C, o)]) σ (upd H' s2.heap.objs.size (.lst ys)) s' := I3.pins_of fun p hp => by
    rcases List.mem_append.mp hp with z | z
    · exact I3.pin p (List.mem_append_right _ z)
    · have e : p = (C, o) := by simpa using z
      subst e
      exact ⟨ho, fC.1, fC.2.1, fC.2.2.1, fun v z => by rw [r.1] at z; cases z⟩
  refine wpAny_assign_Name (store_ok I3p hN hyi (.inl hy) (v := .ref s2.heap.objs.size) rfl (fun s4 I4 => ?_) (.inr hy))
  have a4 := I4.pin (C, o) (List.mem_append_right _ (List.mem_append_right _ (by simp)))
  refine ⟨m, ⟨o, es, ep, a4.1, r⟩, fun h' hs' => ⟨_, _, ?_, zz.2 _ en⟩⟩
  exact (I4.unpinned).turned (t' := s4.toks) (fun b o' hb q => hs'.extBut b o' hb q) fC.1 fC.2.1 fC.2.2.2.1 fC.2.2.2.2.1 fC.2.2.2.2.2
end
end L2
namespace L2
open PySem PySem.Spec PyProof.Rows
structure Cal (P : Program) (w : World) (K : PySem.W.Frag) (mg : Str → Option Value) (base : Heap) (x : Str) (k : Nat) (ps : List Str) (sp : Sp) (f : Addr) (fd : FuncData) : Prop where
  ok : FnOk P w K mg base CX0 k f fd ps sp
  mg : mg x = some (.ref f)
  kp : PySem.W.keepIn K (.ref f) = true
  bd : Binds K fd ps []
section
variable {X : Cx} {x : Str} {p pos : Pos} {e : Expr} {es : List Expr} {t : TA} {k j : Nat} {ps : List Str} {sp : Sp} {f : Addr} {fd : FuncData}
theorem pe_cal (C : Cal X.prog X.w X.K X.mg X.base x k ps sp f fd) (hr : Room j X.A) (hj : k ≤ j) (hg : Gl X x) (ha : PA X (e :: es) t) (hdb : (x == ("__debug__" : Str)) = false := by decide)
    (he : starEach (e :: es) X.env = (false, eval e X.env) :: starEach es X.env := by rfl) (hpl : (backTo pos (starEach es X.env)).any (·.1) = false := by rfl) :
    PE X (.Call (.Name x p) (e :: es) [] pos) (tCall sp [] E0 t) := pe_call C.ok (hr.mono hj) hg C.mg C.kp C.bd .nil pass0 ha hdb he hpl
end
section
variable {X : Cx}
def CDivB (i j : Int) : Prop := 0 < j ∧ j < 2 ^ 200
theorem CDivB.log {i j : Int} (h : CDivB i j) : j.natAbs.log2 < 9000 := by
  have h1 : 0 < j := h.1
  have h2 : j < 2 ^ 200 := h.2
  have h3 : j.natAbs < 2 ^ 200 := by omega
  have h4 : j.natAbs ≠ 0 := by omega
  have := (Nat.log2_lt h4).mpr h3
  omega
theorem op_fdivB : OpR X (binaryOp .FloorDiv) (rI CDivB fun i j => .int (i / j)) := opI fun i j _ _ _ _ _ hc q => by
  have h1 : (0 : Int) < j := hc.1
  exact floordiv_int (by omega) (by rw [Int.fdiv_eq_ediv_of_nonneg i (by omega)]; exact q) (.inl (PyProof.noPylong_of_log2 hc.log))
def kdOf (H : Hp) : V → Option String
  | .non => some "NoneType"
  | .bl _ => some "bool"
  | .int _ => some "int"
  | .str _ => some "str"
  | .ref a => match H a with
    | some (.lst _) => some "list"
    | some (.frz _ (.lst _)) => some "list"
    | some (.tup _) => some "tuple"
    | some (.dK _) => some "dict"
    | _ => none
  | _ => none
def subT (t c : String) : Bool := t == c || (t == "bool" && c == "int")
theorem kit_all (K : PySem.W.Frag) : ∀ t ∈ ["NoneType", "bool", "int", "str", "list", "tuple", "dict"], ∀ c ∈ ["int", "bool", "list", "tuple", "str"], PySem.W.kitOne K (.type t) (.type c) = some (subT t c) := by
  intro t ht c hc
  simp only [List.mem_cons, List.not_mem_nil, or_false] at ht hc
  rcases ht with rfl | rfl | rfl | rfl | rfl | rfl | rfl <;> rcases hc with rfl | rfl | rfl | rfl | rfl <;> rfl
theorem tyOf_kd {K : PySem.W.Frag} {H : Hp} {x : V} {t : String} (h : kdOf H x = some t) : TyOf K H x (.type t) ∧ t ∈ ["NoneType", "bool", "int", "str", "list", "tuple", "dict"] := by
  cases x with
  | non => cases h; exact ⟨.non, by decide⟩
  | bl b => cases h; exact ⟨.bl b, by decide⟩
  | int i => cases h; exact ⟨.int i, by decide⟩
  | str z => cases h; exact ⟨.str z, by decide⟩
  | ref a =>
    unfold kdOf at h
    dsimp only at h
    split at h
    · rename_i e; cases h; exact ⟨.lst e, by decide⟩
    · rename_i e; cases h; exact ⟨.frz e, by decide⟩
    · rename_i e; cases h; exact ⟨.tup e, by decide⟩
    · rename_i e; cases h; exact ⟨.dK e, by decide⟩
    · cases h
  | _ => cases h
def rIsinst : List V → Hp → VK → Prop := fun xs H Q => ∃ x c t, xs = [x, .ty c] ∧ kdOf H x = some t ∧ c ∈ ["int", "bool", "list", "tuple", "str"] ∧ Q (.bl (subT t c)) H
theorem call_isinst : CallR X (.builtin "isinstance") rIsinst := by
  intro pins s σ H xs us Q I r h
  obtain ⟨x, c, t, rfl, hk, hc, q⟩ := h
  obtain ⟨u, w', rfl, rx, ry⟩ := vals2 r
  cases (show w' = Value.type c from ry)
  obtain ⟨ty, ht⟩ := tyOf_kd (K := X.K) hk
  exact isinst_ok I rx ty (kit_all X.K t ht c hc) fun tk => ⟨.bl _, H, I.tok _, rfl, q⟩
def eqVs (xs ys : List V) : Bool := xs.length == ys.length && (List.range xs.length).all fun j => eqV (xs.getD j .non) (ys.getD j .non)
theorem eqVs_ints (ns ms : List Int) : eqVs (ns.map V.int) (ms.map V.int) = decide (ns = ms) := by
  unfold eqVs
  rw [List.length_map, List.length_map]
  by_cases hl : ns.length = ms.length
  · rw [show (ns.length == ms.length) = true by simpa using hl, Bool.true_and]
    rw [Bool.eq_iff_iff, List.all_eq_true, decide_eq_true_eq]
    constructor
    · intro h
      refine List.ext_getElem hl fun i h1 h2 => ?_
      have q := h i (List.mem_range.mpr h1)
      simpa [List.getD, h1, h2, eqV] using q
    · rintro rfl j hj
      have hj' := List.mem_range.mp hj
      simp [List.getD, hj', eqV]
  · rw [show (ns.length == ms.length) = false by simpa using hl, Bool.false_and]
    exact (decide_eq_false fun e => hl (by rw [e])).symm
def rEqL (K : PySem.W.Frag) : R2 := fun x y H Q => ∃ a b xs ys, x = .ref a ∧ y = .ref b ∧ SqL K H a xs ∧ SqL K H b ys ∧ xs.all flatV = true ∧ ys.all flatV = true ∧ Q (.bl (eqVs xs ys)) H
def rNeL (K : PySem.W.Frag) : R2 := fun x y H Q => ∃ a b xs ys, x = .ref a ∧ y = .ref b ∧ SqL K H a xs ∧ SqL K H b ys ∧ xs.all flatV = true ∧ ys.all flatV = true ∧ Q (.bl (!eqVs xs ys)) H
theorem item_eqAt {A : Around} {s : Shared} {xs ys : List V} {us ws : List Value} (rx : Vals xs us) (ry : Vals ys ws) (fx : xs.all flatV = true) (fy : ys.all flatV = true) (j : Nat) (h1 : j < us.toArray.size) (h2 : j < ws.toArray.size) :
    SeqAt.EqAt A s us.toArray[j] ws.toArray[j] (eqV (xs.getD j .non) (ys.getD j .non)) := by
  have l1 := rx.length
  have l2 := ry.length
  rw [List.size_toArray] at h1 h2
  have e1 : xs[j]? = some (xs.getD j .non) := by rw [List.getD_eq_getElem?_getD, List.getElem?_eq_getElem (by omega)]; rfl
  have e2 : ys[j]? = some (ys.getD j .non) := by rw [List.getD_eq_getElem?_getD, List.getElem?_eq_getElem (by omega)]; rfl
  obtain ⟨u, hu, ru⟩ := rx.get e1
  obtain ⟨v, hv, rv⟩ := ry.get e2
  have g1 : us.toArray[j] = u := by
    rw [List.getElem_toArray]
    exact Option.some.inj ((List.getElem?_eq_getElem h1).symm.trans hu)
  have g2 : ws.toArray[j] = v := by
    rw [List.getElem_toArray]
    exact Option.some.inj ((List.getElem?_eq_getElem h2).symm.trans hv)
  rw [g1, g2]
  exact eqAt_V ru rv (List.all_eq_true.mp fx _ (List.mem_of_getElem? e1)) (List.all_eq_true.mp fy _ (List.mem_of_getElem? e2))
theorem op_eqL (hu : X.A.units < cLine) : OpR X (compareOp .Eq) (rEqL X.K) := by
  intro pins s σ H x y v u Q I rx ry h
  obtain ⟨a, b, xs, ys, rfl, rfl, ha, hb, fx, fy, q⟩ := h
  cases rx
  cases ry
  obtain ⟨us, r1, p1, z1⟩ := I.list ha
  obtain ⟨ws, r2, p2, z2⟩ := I.list hb
  have l1 := r1.length
  have l2 := r2.length
  by_cases hl : xs.length = ys.length
  · refine SeqAt.eq_listAt p1.isList p2.isList (by simp only [List.size_toArray]; omega) hu (fun j h1 h2 => item_eqAt r1 r2 fx fy j h1 h2) ⟨.bl _, H, I, rfl, ?_⟩
    have e : eqVs xs ys = (List.range us.toArray.size).all fun j => eqV (xs.getD j .non) (ys.getD j .non) := by
      unfold eqVs
      rw [show (xs.length == ys.length) = true by simpa using hl, Bool.true_and, List.size_toArray, l1]
    rw [← e]
    exact q
  · refine SeqAt.eq_list_lengthsAt p1.isList p2.isList (by simp only [List.size_toArray, bne_iff_ne]; omega) hu ⟨.bl _, H, I, rfl, ?_⟩
    have e : eqVs xs ys = false := by
      unfold eqVs
      rw [show (xs.length == ys.length) = false by simpa using hl, Bool.false_and]
    rw [← e]
    exact q
theorem op_neL (hu : X.A.units < cLine) : OpR X (compareOp .NotEq) (rNeL X.K) := by
  intro pins s σ H x y v u Q I rx ry h
  obtain ⟨a, b, xs, ys, rfl, rfl, ha, hb, fx, fy, q⟩ := h
  cases rx
  cases ry
  obtain ⟨us, r1, p1, z1⟩ := I.list ha
  obtain ⟨ws, r2, p2, z2⟩ := I.list hb
  have l1 := r1.length
  have l2 := r2.length
  by_cases hl : xs.length = ys.length
  · refine SeqAt.RcNeAt.lists p1.isList p2.isList (by simp only [List.size_toArray]; omega) hu (fun j h1 h2 => item_eqAt r1 r2 fx fy j h1 h2) X.prog X.w _ _ ⟨.bl _, H, I, rfl, ?_⟩
    have e : eqVs xs ys = (List.range us.toArray.size).all fun j => eqV (xs.getD j .non) (ys.getD j .non) := by
      unfold eqVs
      rw [show (xs.length == ys.length) = true by simpa using hl, Bool.true_and, List.size_toArray, l1]
    rw [← e]
    exact q
  · refine SeqAt.RcNeAt.lists_lengths p1.isList p2.isList (by simp only [List.size_toArray, bne_iff_ne]; omega) hu X.prog X.w _ _ ⟨.bl _, H, I, rfl, ?_⟩
    have e : eqVs xs ys = false := by
      unfold eqVs
      rw [show (xs.length == ys.length) = false by simpa using hl, Bool.false_and]
    rw [e] at q
    exact q
def rCatS (K : PySem.W.Frag) : R2 := fun x y H Q => ∃ l b xs zs, x = .ref l ∧ y = .ref b ∧ SqL K H l xs ∧ SqL K H b zs ∧ xs.length + zs.length ≤ sizeLine ∧ ∀ p, H p = none → Q (.ref p) (upd H p (.lst (xs ++ zs)))
theorem op_catS : OpR X (binaryOp .Add) (rCatS X.K) := by
  intro pins s σ H x y v u Q I rx ry h
  obtain ⟨l, b, xs, zs, rfl, rfl, hl, hb, hz, q⟩ := h
  cases rx
  cases ry
  obtain ⟨us, r1, p1, z1⟩ := I.list hl
  obtain ⟨ws, r2, p2, z2⟩ := I.list hb
  obtain ⟨⟨c1, d1, t1, s1⟩, n1, e1, ec1, ed1, et1⟩ := p1
  obtain ⟨⟨c2, d2, t2, s2⟩, n2, e2, ec2, ed2, et2⟩ := p2
  simp only at ec1 ed1 et1 ec2 ed2 et2
  subst ec1 ed1 et1 ec2 ed2 et2
  have l1 := r1.length
  have l2 := r2.length
  refine concat_meets ⟨_, e1, rfl⟩ ⟨_, e2, rfl⟩ noFill_list_add seq_list_add PySem.F.slot_list_add PySem.F.entry_list_add (PySem.F.args_list_add_2 _ _) (list_addW l b us.toArray ws.toArray n1 n2 none none s1 s2 (by simp only [List.size_toArray]; omega)) ⟨e1, e2, ?_⟩
  have ea : us.toArray ++ ws.toArray = (us ++ ws).toArray := by simp
  rw [ea]
  exact ⟨.ref _, _, I.lnew (t' := s.toks) (r1.append r2) (by rw [List.length_append]; omega), rfl, q _ I.fresh⟩
def isPl : V → V → Bool
  | .bl _, .bl _ => true
  | .non, .bl _ => true
  | .bl _, .non => true
  | .non, .non => true
  | .int _, .bl _ => true
  | .int _, .non => true
  | .str _, .bl _ => true
  | .str _, .non => true
  | .ref _, .bl _ => true
  | .ref _, .non => true
  | _, _ => false
theorem is_ok {x y : V} {v u : Value} (rx : RelV x v) (ry : RelV y u) (h : isPl x y = true) : plainIs v u = true ∧ (v == u) = decide (x = y) := by
  cases x <;> cases y <;> first
    | exact absurd (show false = true from h) Bool.false_ne_true
    | (cases rx; cases ry; exact ⟨rfl, rfl⟩)
    | (cases rx; cases ry; rename_i a b; cases a <;> cases b <;> exact ⟨rfl, rfl⟩)
    | (obtain ⟨t, rfl⟩ := rx; cases ry; exact ⟨rfl, rfl⟩)
theorem op_isnotP : OpR X (compareOp .IsNot) (fun x y H Q => isPl x y = true ∧ Q (.bl (!decide (x = y))) H) := by
  intro pins s σ H x y v u Q I rx ry h
  obtain ⟨e1, e2⟩ := is_ok rx ry h.1
  exact wpAny_isNot_plain e1 ⟨.bl _, H, I, by rw [e2]; rfl, h.2⟩
theorem cx_K {CX : CXT} {P : Program} {w : World} {K : PySem.W.Frag} {mg : Str → Option Value} {base : Heap} {N : List Str} {qual : Str} {scope : Scope} {f : Addr} {cd : Value} {A : Around} {outer : List Env} {s : Shared} {H : Hp} {E : XK} :
    (cxOf CX P w K mg base N qual scope f cd A outer s H E).K = K := rfl
theorem tyV_list {K : PySem.W.Frag} {H : Hp} {a : Addr} {xs : List V} (h : H a = some (.lst xs)) : tyV K "list" (.ref a) H := .inl ⟨rfl, xs, SqL.of h⟩
theorem tyV_upd {K : PySem.W.Frag} {H : Hp} {a : Addr} {xs : List V} : tyV K "list" (.ref a) (upd H a (.lst xs)) ↔ True := ⟨fun _ => trivial, fun _ => tyV_list upd_same⟩
theorem kd_lst {H : Hp} {a : Addr} {xs : List V} (h : H a = some (.lst xs)) : kdOf H (.ref a) = some "list" := by unfold kdOf; dsimp only; rw [h]
theorem kd_tup {H : Hp} {a : Addr} {xs : List V} (h : H a = some (.tup xs)) : kdOf H (.ref a) = some "tuple" := by unfold kdOf; dsimp only; rw [h]
theorem kd_dK {H : Hp} {a : Addr} {xs : List (Key × V)} (h : H a = some (.dK xs)) : kdOf H (.ref a) = some "dict" := by unfold kdOf; dsimp only; rw [h]
theorem Same.upd {H H' : Hp} {a : Addr} {o : HO} (e : Same H H') (h : H a = none) : Same H (L2.upd H' a o) := fun b u q => by
  rw [upd_ne (fun z => by rw [z, h] at q; cases q)]
  exact e b u q
theorem Same.new {H : Hp} {a : Addr} {o : HO} (h : H a = none) : Same H (L2.upd H a o) := (Same.refl H).upd h
section
variable {K : PySem.W.Frag} {H : Hp} {Q : VK} {i j : Int} {a : Addr} {b c : Bool} {z z' : Str} {y : V} {g : Int → Int → V}
theorem rCatS_i : rCatS K (.int i) y H Q ↔ False := ⟨fun ⟨_, _, _, _, e, _⟩ => (nomatch e), False.elim⟩
theorem rEqL_i : rEqL K (.int i) y H Q ↔ False := ⟨fun ⟨_, _, _, _, e, _⟩ => (nomatch e), False.elim⟩
theorem rEqL_b : rEqL K (.bl b) y H Q ↔ False := ⟨fun ⟨_, _, _, _, e, _⟩ => (nomatch e), False.elim⟩
theorem rEqL_s : rEqL K (.str z) y H Q ↔ False := ⟨fun ⟨_, _, _, _, e, _⟩ => (nomatch e), False.elim⟩
theorem rEqL_n : rEqL K .non y H Q ↔ False := ⟨fun ⟨_, _, _, _, e, _⟩ => (nomatch e), False.elim⟩
theorem rNeL_i : rNeL K (.int i) y H Q ↔ False := ⟨fun ⟨_, _, _, _, e, _⟩ => (nomatch e), False.elim⟩
theorem rNeL_b : rNeL K (.bl b) y H Q ↔ False := ⟨fun ⟨_, _, _, _, e, _⟩ => (nomatch e), False.elim⟩
theorem rNeL_s : rNeL K (.str z) y H Q ↔ False := ⟨fun ⟨_, _, _, _, e, _⟩ => (nomatch e), False.elim⟩
theorem rNeL_n : rNeL K .non y H Q ↔ False := ⟨fun ⟨_, _, _, _, e, _⟩ => (nomatch e), False.elim⟩
theorem rEq_r : rEq (.ref a) y H Q ↔ False := ⟨fun ⟨e, _⟩ => by cases y <;> exact absurd (show false = true from e) Bool.false_ne_true, False.elim⟩
theorem rNe_r : rNe (.ref a) y H Q ↔ False := ⟨fun ⟨e, _⟩ => by cases y <;> exact absurd (show false = true from e) Bool.false_ne_true, False.elim⟩
theorem rEq_i : rEq (.int i) (.int j) H Q ↔ Q (.bl (decide (i = j))) H := by unfold rEq; simp [show scal (.int i) (.int j) = true from rfl]
theorem rNe_i : rNe (.int i) (.int j) H Q ↔ Q (.bl (!decide (i = j))) H := by unfold rNe; simp [show scal (.int i) (.int j) = true from rfl]
theorem rEq_b : rEq (.bl b) (.bl c) H Q ↔ Q (.bl (decide (b = c))) H := by unfold rEq; simp [show scal (.bl b) (.bl c) = true from rfl]
theorem rNe_b : rNe (.bl b) (.bl c) H Q ↔ Q (.bl (!decide (b = c))) H := by unfold rNe; simp [show scal (.bl b) (.bl c) = true from rfl]
theorem rEq_s : rEq (.str z) (.str z') H Q ↔ Q (.bl (decide (z = z'))) H := by unfold rEq; simp [show scal (.str z) (.str z') = true from rfl]
theorem rNe_s : rNe (.str z) (.str z') H Q ↔ Q (.bl (!decide (z = z'))) H := by unfold rNe; simp [show scal (.str z) (.str z') = true from rfl]
theorem rI0_r : rI0 g (.ref a) y H Q ↔ False := ⟨fun ⟨_, _, e, _⟩ => (nomatch e), False.elim⟩
theorem rI0_i : rI0 g (.int i) (.int j) H Q ↔ Q (g i j) H := ⟨fun ⟨_, _, e, e', q⟩ => by cases e; cases e'; exact q, fun q => ⟨i, j, rfl, rfl, q⟩⟩
theorem rI_i {C : Int → Int → Prop} : rI C g (.int i) (.int j) H Q ↔ C i j ∧ Q (g i j) H := ⟨fun ⟨_, _, e, e', q⟩ => by cases e; cases e'; exact q, fun q => ⟨i, j, rfl, rfl, q⟩⟩
theorem rApp_upd {xs : List V} : rAppend (.ref a) [y] (upd H a (.lst xs)) Q ↔ xs.length < sizeLine ∧ Q .non (upd H a (.lst (xs ++ [y]))) := by
  constructor
  · rintro ⟨l, ys, v, e1, e2, e3, e4, q⟩
    cases e1; cases e2
    rw [upd_same] at e3
    cases e3
    rw [upd_upd] at q
    exact ⟨e4, q⟩
  · rintro ⟨e, q⟩
    exact ⟨a, xs, y, rfl, rfl, upd_same, e, by rw [upd_upd]; exact q⟩
theorem cpow_of (h0 : 0 ≤ j) (h1 : j ≤ 1000) (h2 : -1000 ≤ i) (h3 : i ≤ 1000) : CPow i j := ⟨h0, by omega, by omega⟩
end
def LoopJ (J : It) (g : TG) (tb : TS) (D : Ends) (σ : St) (H : Hp) : Prop := ∃ W : Nat → Nat → St → Hp → Prop, (∃ m, W 0 m σ H) ∧ ∀ i m σ H, W i m σ H →
  (J.stop i H ∧ D.nx σ H) ∨ (J.go i H ∧ ∃ N : St → Hp → Prop, (∀ σ' H', N σ' H' → ∃ m', m' < m ∧ W (i + 1) m' σ' H') ∧ ∀ x H', J.yld i H x H' → g x σ H' fun σ2 H2 => tb { D with nx := N, ct := N, bk := D.nx } σ2 H2)
def CompJ (J : It) (nt : Nat) (caps : List Nat) (g : TG) (tt : TT) (te : TE) (σ : St) (H : Hp) (Q : VK) : Prop := ∃ W : Nat → Nat → List V → Hp → Prop, (∃ m, W 0 m [] H) ∧ ∀ i m ys H2, W i m ys H2 →
    (J.stop i H2 ∧ ys.length ≤ sizeLine ∧ ∀ p, H2 p = none → Q (.ref p) (upd H2 p (.lst ys))) ∨
    (J.go i H2 ∧ ys.length < sizeLine ∧ ∀ x H3, J.yld i H2 x H3 → g x (capSt nt caps σ) H3 fun σ4 H4 => tt σ4 H4 fun b H5 =>
      if b = true then te σ4 H5 fun y H6 => ∃ m', m' < m ∧ W (i + 1) m' (ys ++ [y]) H6 else ∃ m', m' < m ∧ W (i + 1) m' ys H5)
section
variable {K : PySem.W.Frag} {g : TG} {tb : TS} {D : Ends} {σ : St} {H : Hp} {a : Addr} {xs : List V} {tl : TE} {ta : TA} {nt : Nat} {caps : List Nat} {tt : TT} {te : TE} {Q : VK}
theorem tFor_l : tFor (iList K tl) g tb D σ H ↔ tl σ H fun x H1 => ∃ a, x = .ref a ∧ (∃ xs, SqL K H1 a xs) ∧ LoopJ (Itl K a) g tb D σ H1 := Iff.rfl
theorem tFor_r1 : tFor (iRng1 ta) g tb D σ H ↔ ta σ H fun vs H1 => ∃ j : Int, vs = [.int j] ∧ -(2 ^ 62) ≤ j ∧ j < 2 ^ 62 ∧ LoopJ (Itr 0 j.toNat) g tb D σ H1 := Iff.rfl
theorem tFor_r2 : tFor (iRng2 ta) g tb D σ H ↔ ta σ H fun vs H1 => ∃ i j : Int, vs = [.int i, .int j] ∧ (-(2 ^ 62) ≤ i ∧ i < 2 ^ 62 ∧ -(2 ^ 62) ≤ j ∧ j < 2 ^ 62) ∧ LoopJ (Itr i (j - i).toNat) g tb D σ H1 := Iff.rfl
theorem tComp_l : tComp nt caps (iList K tl) g tt te σ H Q ↔ tl σ H fun x H1 => ∃ a, x = .ref a ∧ (∃ xs, SqL K H1 a xs) ∧ CompJ (Itl K a) nt caps g tt te σ H1 Q := Iff.rfl
theorem tComp_r1 : tComp nt caps (iRng1 ta) g tt te σ H Q ↔ ta σ H fun vs H1 => ∃ j : Int, vs = [.int j] ∧ -(2 ^ 62) ≤ j ∧ j < 2 ^ 62 ∧ CompJ (Itr 0 j.toNat) nt caps g tt te σ H1 Q := Iff.rfl
theorem tComp_r2 : tComp nt caps (iRng2 ta) g tt te σ H Q ↔ ta σ H fun vs H1 => ∃ i j : Int, vs = [.int i, .int j] ∧ (-(2 ^ 62) ≤ i ∧ i < 2 ^ 62 ∧ -(2 ^ 62) ≤ j ∧ j < 2 ^ 62) ∧ CompJ (Itr i (j - i).toNat) nt caps g tt te σ H1 Q := Iff.rfl
theorem loopL (Pv : Nat → St → Hp → Prop) (h0 : Pv 0 σ H) (hl : ∀ i σ H, i ≤ xs.length → Pv i σ H → SqL K H a xs)
    (hs : ∀ i x σ H, xs[i]? = some x → Pv i σ H → g x σ H fun σ2 H2 => tb { D with nx := Pv (i + 1), ct := Pv (i + 1), bk := D.nx } σ2 H2) (hd : ∀ σ H, Pv xs.length σ H → D.nx σ H) : LoopJ (Itl K a) g tb D σ H := for_list Pv h0 hl hs hd
theorem loopR {lo : Int} {n : Nat} (Pv : Nat → St → Hp → Prop) (h0 : Pv 0 σ H)
    (hs : ∀ i σ H, i < n → Pv i σ H → g (.int (lo + i)) σ H fun σ2 H2 => tb { D with nx := Pv (i + 1), ct := Pv (i + 1), bk := D.nx } σ2 H2) (hd : ∀ σ H, Pv n σ H → D.nx σ H) : LoopJ (Itr lo n) g tb D σ H := for_range Pv h0 hs hd
end
section
variable {t u t' u' : TS} {te : TE} {g : TG} {c : TT} {D : Ends} {σ : St} {H : Hp} {wi : TI} {tb : TS}
theorem tSeq_asg : tSeq (tAsg te g) u D σ H ↔ te σ H fun x H1 => g x σ H1 (u D) := Iff.rfl
theorem tSeq_drop : tSeq (tDrop te) u D σ H ↔ te σ H fun _ H1 => u D σ H1 := Iff.rfl
theorem tSeq_for : tSeq (tFor wi g tb) u D σ H ↔ tFor wi g tb { D with nx := u D } σ H := Iff.rfl
theorem tSeq_while : tSeq (tWhile c tb) u D σ H ↔ tWhile c tb { D with nx := u D } σ H := Iff.rfl
theorem tSeq_ifr : tSeq (tIfS c (tRet te) tNext) u D σ H ↔ c σ H fun b H1 => if b = true then te σ H1 D.rt else u D σ H1 := Iff.rfl
theorem tIfS_ap : tIfS c t u D σ H ↔ c σ H fun b H1 => if b = true then t D σ H1 else u D σ H1 := Iff.rfl
theorem seqCut (I : St → Hp → Prop) (h2 : ∀ σ' H', I σ' H' → u D σ' H') (h1 : ∀ N : St → Hp → Prop, (∀ σ' H', I σ' H' → N σ' H') → t { D with nx := N } σ H) : tSeq t u D σ H := h1 (u D) h2
end
theorem rdg {t : TS} {D : Ends} {σ σ' : St} {H : Hp} (e : σ = σ') (h : t D σ' H) : t D σ H := e ▸ h
def EqOf (K : PySem.W.Frag) (x y : V) (H : Hp) (b : Bool) : Prop := (scal x y = true ∧ b = decide (x = y)) ∨
  ∃ a c xs ys, x = .ref a ∧ y = .ref c ∧ SqL K H a xs ∧ SqL K H c ys ∧ xs.all flatV = true ∧ ys.all flatV = true ∧ b = eqVs xs ys
def rEqX (K : PySem.W.Frag) : R2 := fun x y H Q => ∃ b, EqOf K x y H b ∧ Q (.bl b) H
def rNeX (K : PySem.W.Frag) : R2 := fun x y H Q => ∃ b, EqOf K x y H b ∧ Q (.bl (!b)) H
def IxOf (K : PySem.W.Frag) (x y : V) (H : Hp) (v : V) : Prop := (∃ p xs i, x = .ref p ∧ y = .int i ∧ SqL K H p xs ∧ atI xs i = some v) ∨ ∃ p xs i, x = .ref p ∧ y = .int i ∧ SqT K H p xs ∧ atI xs i = some v
def rIxX (K : PySem.W.Frag) : R2 := fun x y H Q => ∃ v, IxOf K x y H v ∧ Q v H
section
variable {K : PySem.W.Frag} {H : Hp} {Q : VK} {i j : Int} {a c : Addr} {b b' : Bool} {z z' : Str} {xs ys : List V}
theorem eqOf_i : EqOf K (.int i) (.int j) H b ↔ b = decide (i = j) := by
  constructor
  · rintro (⟨_, e⟩ | ⟨_, _, _, _, e, _⟩)
    · rw [e]; simp
    · cases e
  · intro e; exact .inl ⟨rfl, by rw [e]; simp⟩
theorem eqOf_b {b'' : Bool} : EqOf K (.bl b') (.bl b) H b'' ↔ b'' = decide (b' = b) := by
  constructor
  · rintro (⟨_, e⟩ | ⟨_, _, _, _, e, _⟩)
    · rw [e]; simp
    · cases e
  · intro e; exact .inl ⟨rfl, by rw [e]; simp⟩
theorem eqOf_s : EqOf K (.str z) (.str z') H b ↔ b = decide (z = z') := by
  constructor
  · rintro (⟨_, e⟩ | ⟨_, _, _, _, e, _⟩)
    · rw [e]; simp
    · cases e
  · intro e; exact .inl ⟨rfl, by rw [e]; simp⟩
theorem rEqX_i : rEqX K (.int i) (.int j) H Q ↔ Q (.bl (decide (i = j))) H := by unfold rEqX; simp [eqOf_i]
theorem rNeX_i : rNeX K (.int i) (.int j) H Q ↔ Q (.bl (!decide (i = j))) H := by unfold rNeX; simp [eqOf_i]
theorem rEqX_b : rEqX K (.bl b) (.bl b') H Q ↔ Q (.bl (decide (b = b'))) H := by unfold rEqX; simp [eqOf_b]
theorem rNeX_b : rNeX K (.bl b) (.bl b') H Q ↔ Q (.bl (!decide (b = b'))) H := by unfold rNeX; simp [eqOf_b]
theorem rEqX_s : rEqX K (.str z) (.str z') H Q ↔ Q (.bl (decide (z = z'))) H := by unfold rEqX; simp [eqOf_s]
theorem rNeX_s : rNeX K (.str z) (.str z') H Q ↔ Q (.bl (!decide (z = z'))) H := by unfold rNeX; simp [eqOf_s]
theorem eqX_l (h1 : SqL K H a xs) (h2 : SqL K H c ys) (f1 : xs.all flatV = true) (f2 : ys.all flatV = true) (q : Q (.bl (eqVs xs ys)) H) : rEqX K (.ref a) (.ref c) H Q := ⟨_, .inr ⟨a, c, xs, ys, rfl, rfl, h1, h2, f1, f2, rfl⟩, q⟩
theorem ixX_l {v : V} (h : SqL K H a xs) (e : atI xs i = some v) (q : Q v H) : rIxX K (.ref a) (.int i) H Q := ⟨v, .inl ⟨a, xs, i, rfl, rfl, h, e⟩, q⟩
theorem ixX_t {v : V} (h : SqT K H a xs) (e : atI xs i = some v) (q : Q v H) : rIxX K (.ref a) (.int i) H Q := ⟨v, .inr ⟨a, xs, i, rfl, rfl, h, e⟩, q⟩
theorem op_eqK (h : X.K = K) (hu : X.A.units < cLine) : OpR X (compareOp .Eq) (rEqX K) := by
  subst h
  intro pins s σ H x y v u Q I rx ry q
  obtain ⟨b, hb, q⟩ := q
  rcases hb with ⟨hs, rfl⟩ | ⟨a, c, xs, ys, rfl, rfl, h1, h2, f1, f2, rfl⟩
  · exact op_eq pins s σ H x y v u Q I rx ry ⟨hs, q⟩
  · exact op_eqL hu pins s σ H _ _ v u Q I rx ry ⟨a, c, xs, ys, rfl, rfl, h1, h2, f1, f2, q⟩
theorem op_neK (h : X.K = K) (hu : X.A.units < cLine) : OpR X (compareOp .NotEq) (rNeX K) := by
  subst h
  intro pins s σ H x y v u Q I rx ry q
  obtain ⟨b, hb, q⟩ := q
  rcases hb with ⟨hs, rfl⟩ | ⟨a, c, xs, ys, rfl, rfl, h1, h2, f1, f2, rfl⟩
  · exact op_ne pins s σ H x y v u Q I rx ry ⟨hs, q⟩
  · exact op_neL hu pins s σ H _ _ v u Q I rx ry ⟨a, c, xs, ys, rfl, rfl, h1, h2, f1, f2, q⟩
theorem op_catK (h : X.K = K) : OpR X (binaryOp .Add) (rCatS K) := h ▸ op_catS
theorem op_notInK (h : X.K = K) : OpR X (compareOp .NotIn) (rIn K true) := h ▸ op_notIn_seq
theorem ix_mono {r r' : R2} (h : IxR X r) (hr : ∀ x y H Q, r' x y H Q → r x y H Q) : IxR X r' :=
  fun value slice pins s σ H x y v u Q I rx ry q e => h value slice pins s σ H x y v u Q I rx ry (hr _ _ _ _ q) e
theorem ix_K (h : X.K = K) : IxR X (rIxX K) := by
  subst h
  refine ix_mono ix_seq fun x y H Q q => ?_
  obtain ⟨z, hz, q⟩ := q
  rcases hz with ⟨p, xs, i, e1, e2, e3, e4⟩ | ⟨p, xs, i, e1, e2, e3, e4⟩
  · exact .inl ⟨p, xs, i, z, e1, e2, e3, e4, q⟩
  · exact .inr (.inl ⟨p, xs, i, z, e1, e2, e3, e4, q⟩)
theorem call_lenK (h : X.K = K) : CallR X (.builtin "len") (fun xs H Q => ∃ p ys, xs = [.ref p] ∧ (SqL K H p ys ∨ SqT K H p ys) ∧ Q (.int ys.length) H) := h ▸ call_len_seq
theorem sl_K (h : X.K = K) : SlR X (rSlL K) := h ▸ sl_list
end
def sp1 (R : V → Hp → VK → Prop) : Sp := fun vs H Q _ => ∃ a, vs = [a] ∧ R a H Q
def sp2 (R : V → V → Hp → VK → Prop) : Sp := fun vs H Q _ => ∃ a b, vs = [a, b] ∧ R a b H Q
def sp3 (R : V → V → V → Hp → VK → Prop) : Sp := fun vs H Q _ => ∃ a b c, vs = [a, b, c] ∧ R a b c H Q
def sp4 (R : V → V → V → V → Hp → VK → Prop) : Sp := fun vs H Q _ => ∃ a b c d, vs = [a, b, c, d] ∧ R a b c d H Q
def spLaw (K : PySem.W.Frag) : Sp := sp1 fun x H Q => ∃ (a : Addr) (ns : List Int), x = .ref a ∧ SqL K H a (ns.map V.int) ∧ ns.length ≤ 63 ∧ ∀ H', Q (.bl true) H'
end
end L2
namespace L2
open PySem PySem.Spec PyProof.Rows
section
variable {X : Cx} {K : PySem.W.Frag}
def tRev (K : PySem.W.Frag) (te : TE) : TE := fun σ H Q => te σ H fun x H1 => ∃ a xs, x = .ref a ∧ SqL K H1 a xs ∧ ∀ p, H1 p = none → Q (.ref p) (upd H1 p (.lst xs.reverse))
def Itv (K : PySem.W.Frag) (a : Addr) (xs : List V) : It := ⟨fun i H => SqL K H a xs ∧ i < xs.length, fun i H x H' => H' = H ∧ xs.reverse[i]? = some x, fun i H => SqL K H a xs ∧ xs.length ≤ i⟩
def iRev (K : PySem.W.Frag) (ta : TA) : TI := fun σ H R => ta σ H fun vs H1 => ∃ a xs, vs = [.ref a] ∧ SqL K H1 a xs ∧ R (Itv K a xs) H1
end
section
variable {K : PySem.W.Frag} {g : TG} {tb : TS} {D : Ends} {σ : St} {H : Hp} {a : Addr} {xs : List V} {ta : TA}
theorem tFor_rv : tFor (iRev K ta) g tb D σ H ↔ ta σ H fun vs H1 => ∃ a xs, vs = [.ref a] ∧ SqL K H1 a xs ∧ LoopJ (Itv K a xs) g tb D σ H1 := Iff.rfl
end
end L2
namespace L2
open PySem PySem.Spec PyProof.Rows
theorem and_nat (a b : Nat) : Builtin.bitAnd (a : Int) (b : Int) = ((a &&& b : Nat) : Int) := by
  rw [bitAnd_pp (by omega) (by omega)]
  rfl
theorem or_nat (a b : Nat) : Builtin.bitOr (a : Int) (b : Int) = ((a ||| b : Nat) : Int) := by
  rw [bitOr_and, and_nat]
  have h : ∀ n (a b : Nat), a < 2 ^ n → a + b = (a ||| b) + (a &&& b) := by
    intro n
    induction n with
    | zero => intro a b ha; have : a = 0 := by omega
              subst this; simp
    | succ n ih =>
      intro a b ha
      have q := ih (a / 2) (b / 2) (by rw [Nat.pow_succ] at ha; omega)
      have e1 : (a ||| b) / 2 = a / 2 ||| b / 2 := Nat.or_div_two
      have e2 : (a &&& b) / 2 = a / 2 &&& b / 2 := Nat.and_div_two
      have m1 : (a ||| b) % 2 = if a % 2 = 1 ∨ b % 2 = 1 then 1 else 0 := by
        have := Nat.testBit_or a b 0
        simp only [Nat.testBit_zero] at this
        rcases Nat.mod_two_eq_zero_or_one (a ||| b) with z | z <;> rcases Nat.mod_two_eq_zero_or_one a with z1 | z1 <;> rcases Nat.mod_two_eq_zero_or_one b with z2 | z2 <;> simp [z, z1, z2] at this ⊢
      have m2 : (a &&& b) % 2 = if a % 2 = 1 ∧ b % 2 = 1 then 1 else 0 := by
        have := Nat.testBit_and a b 0
        simp only [Nat.testBit_zero] at this
        rcases Nat.mod_two_eq_zero_or_one (a &&& b) with z | z <;> rcases Nat.mod_two_eq_zero_or_one a with z1 | z1 <;> rcases Nat.mod_two_eq_zero_or_one b with z2 | z2 <;> simp [z, z1, z2] at this ⊢
      rw [← e1, ← e2] at q
      clear ih e1 e2 ha
      generalize (a ||| b) = x at q m1 ⊢
      generalize (a &&& b) = y at q m2 ⊢
      split at m1 <;> split at m2 <;> omega
  have := h (a + 1) a b (Nat.lt_of_lt_of_le (Nat.lt_succ_self a) (Nat.le_of_lt Nat.lt_two_pow_self))
  omega
theorem flat_ints (ns : List Int) : (ns.map V.int).all flatV = true := by
  rw [List.all_eq_true]
  intro x hx
  obtain ⟨z, _, rfl⟩ := List.mem_map.mp hx
  rfl
theorem eqVs_nil {xs : List V} : eqVs xs [] = xs.isEmpty := by
  cases xs <;> rfl
theorem pow_cast (k : Nat) : (2 : Int) ^ k = ((2 ^ k : Nat) : Int) := by
  rw [Int.natCast_pow]
  rfl
end L2
namespace Tim
open PySem PyProof.Rows
section
variable {prog : Program} {w : World} {A : Around} {E : Value → Shared → Prop} {s : Shared}
theorem sort_any {a : Addr} {vs : List Value} {ns : List Int} {n : Nat} {P : Fin → Shared → Prop} (at0 : s.heap.get? a = some (seqObj "list" vs.toArray n)) (hI : IntsAre vs ns) (hz : vs.length ≤ 63)
    (h : ∀ (out : Array Value) (ms : List Int), IntsAre out.toList ms → ms.Perm ns → ms.Pairwise (· ≤ ·) → P (.done (.ret .none)) { s with heap := sortedHeap s.heap a vs out }) :
    wpAny (model prog w) A (Builtin.«list.sort» ⟨[.ref a], []⟩) P E s := by
  exact list_sort_tree at0 hI (by omega) h
end
end Tim
namespace STb
open PySem PySem.SetTable
def Ris (xs : Array Nat) : Prop := xs.toList.Pairwise (· < ·)
theorem Ris.lt {xs : Array Nat} (h : Ris xs) {i j a b : Nat} (hij : i < j) (ha : xs[i]? = some a) (hb : xs[j]? = some b) : a < b := by
  have h' := List.pairwise_iff_getElem.mp h
  rw [← Array.getElem?_toList] at ha hb
  obtain ⟨h1, e1⟩ := List.getElem?_eq_some_iff.mp ha
  obtain ⟨h2, e2⟩ := List.getElem?_eq_some_iff.mp hb
  have := h' i j h1 h2 hij
  rw [e1, e2] at this
  exact this
end STb
namespace STb
open PySem PySem.SetTable PyProof.Rows
def kI : Value → Option Int
  | .int n _ => some n
  | _ => none
theorem kI_is {prog : Program} {w : World} {k : Int} {v : Value} : (intKind prog w).is k v = true ↔ kI v = some k := by
  constructor
  · intro h
    cases v <;> first
      | (rename_i n t; have : n = k := by simpa [intKind, Value.isInt] using h
         rw [this]; rfl)
      | (exfalso; simp [intKind, Value.isInt] at h)
  · intro h
    cases v <;> first
      | (rename_i n t; cases h; exact intKind_is _ _ _ _)
      | cases h
def RS (prog : Program) (w : World) (h : Heap) (a : Addr) (ns : List Int) : Prop :=
  ∃ es ep t, h.get? a = some { cls := .type "set", dict := none, data := .set es ep t } ∧ ElemsOf (intKind prog w) es.toList ∧ (es.toList.map fun e => kI e.2).Perm (ns.map some) ∧ es.size < scanBound ∧ t.fits es.size = true ∧
    Ris t.place ∧ t.led = !w.params.followText "set-order" ∧ ns.Nodup
theorem RS.keep {prog : Program} {w : World} {h h' : Heap} {a : Addr} {ns : List Int} (r : RS prog w h a ns) (k : ∀ o, h.get? a = some o → h'.get? a = some o) : RS prog w h' a ns := by
  obtain ⟨es, ep, t, e, q⟩ := r
  exact ⟨es, ep, t, k _ e, q⟩
theorem RS.len {prog : Program} {w : World} {h : Heap} {a : Addr} {ns : List Int} (r : RS prog w h a ns) : ns.length < scanBound := by
  obtain ⟨es, ep, t, e, _, p, b, _⟩ := r
  have := p.length_eq
  rw [List.length_map, List.length_map, Array.length_toList] at this
  omega
def addTo (ns : List Int) (n : Int) : List Int := if n ∈ ns then ns else ns ++ [n]
theorem addTo_nd {ns : List Int} {n : Int} (h : ns.Nodup) : (addTo ns n).Nodup := by
  unfold addTo
  split
  · exact h
  · rename_i hn
    exact List.nodup_append.mpr ⟨h, by simp, fun a ha b hb e => hn (by simp at hb; rw [← hb, ← e]; exact ha)⟩
theorem addTo_mem {ns : List Int} {n k : Int} : k ∈ addTo ns n ↔ k ∈ ns ∨ k = n := by
  unfold addTo
  split
  · rename_i hn
    exact ⟨.inl, fun h => h.elim id fun e => e ▸ hn⟩
  · simp
theorem addTo_len (ns : List Int) (n : Int) : (addTo ns n).length ≤ ns.length + 1 := by
  unfold addTo
  split
  · omega
  · simp
section
variable {prog : Program} {w : World} {A : Around} {E : Value → Shared → Prop} {s : Shared} {a : Addr}
end
end STb
namespace STb
open PySem PySem.SetTable PyProof.Rows
def metBy (val : Nat → Int) (i : Nat) : List Int := ((List.range i).map val).foldl addTo []
theorem metBy_succ (val : Nat → Int) (i : Nat) : metBy val (i + 1) = addTo (metBy val i) (val i) := by
  unfold metBy
  rw [List.range_succ, List.map_append, List.foldl_append]
  rfl
theorem metBy_len (val : Nat → Int) : ∀ i, (metBy val i).length ≤ i
  | 0 => Nat.zero_le _
  | i + 1 => by
    rw [metBy_succ]
    have h1 := addTo_len (metBy val i) (val i)
    have h2 := metBy_len val i
    omega
section
variable {prog : Program} {w : World} {A : Around} {R : Result → Shared → Prop} {I : Addr} {fp wr : List Addr} {G : Array GenState → Array GenState → Prop} {n : Nat} {P : Nat → Value → Prop} {St : Nat → Shared → Prop}
end
section
variable {prog : Program} {w : World} {A : Around} {E : Value → Shared → Prop} {s : Shared}
end
end STb
namespace STb
open PySem PySem.SetTable PyProof.Rows
section
variable {prog : Program} {w : World} {A : Around} {E : Value → Shared → Prop} {s : Shared}
end
end STb
namespace STb
open PySem PySem.SetTable PyProof.Rows
section
variable {prog : Program} {w : World} {A : Around} {E : Value → Shared → Prop} {s : Shared} {I S : Addr} {es : Array (Int × Value)} {ep : Nat} {t : SetTable}
end
end STb
namespace STb
open PySem PySem.SetTable PyProof.Rows
section
variable {prog : Program} {w : World} {A : Around} {E : Value → Shared → Prop} {s : Shared} {I S : Addr} {es : Array (Int × Value)} {ep : Nat} {t : SetTable}
end
end STb
namespace STb
open PySem PySem.SetTable PyProof.Rows
section
variable {prog : Program} {w : World} {A : Around} {E : Value → Shared → Prop} {s : Shared} {I S : Addr} {es : Array (Int × Value)} {ep : Nat} {t : SetTable}
end
end STb
namespace STb
open PySem PySem.SetTable PyProof.Rows
section
variable {prog : Program} {w : World} {A : Around} {E : Value → Shared → Prop} {s : Shared} {I S : Addr} {es : Array (Int × Value)} {ep : Nat} {t : SetTable}
end
end STb
namespace STb
open PySem PySem.SetTable PyProof.Rows
section
variable {prog : Program} {w : World} {A : Around} {E : Value → Shared → Prop} {s : Shared} {I S : Addr}
end
end STb
namespace STb
open PySem PySem.SetTable PyProof.Rows
section
variable {prog : Program} {w : World} {A : Around} {E : Value → Shared → Prop} {s : Shared} {I S : Addr}
end
end STb
namespace L2
open PySem PySem.Spec PyProof.Rows STb
def dedup (ns : List Int) : List Int := ns.foldl addTo []
theorem metBy_dedup (ns : List Int) : metBy (fun i => ns.getD i 0) ns.length = dedup ns := by
  unfold metBy dedup
  congr 1
  refine List.ext_getElem (by simp) fun i h1 h2 => ?_
  have : i < ns.length := by simpa using h1
  simp [List.getD, this]
theorem mem_dedup {ns : List Int} {k : Int} : k ∈ dedup ns ↔ k ∈ ns := by
  have key : ∀ (l acc : List Int), k ∈ l.foldl addTo acc ↔ k ∈ acc ∨ k ∈ l := fun l => by
    induction l with
    | nil => intro acc; simp
    | cons x r ih =>
      intro acc
      rw [List.foldl_cons, ih, addTo_mem, List.mem_cons, or_assoc]
  rw [dedup, key]
  simp
theorem nodup_dedup (ns : List Int) : (dedup ns).Nodup := by
  have key : ∀ (l acc : List Int), acc.Nodup → (l.foldl addTo acc).Nodup := fun l => by
    induction l with
    | nil => intro acc h; exact h
    | cons x r ih => intro acc h; exact ih _ (addTo_nd h)
  exact key ns [] List.nodup_nil
theorem dedup_len (ns : List Int) : (dedup ns).length ≤ ns.length := by
  rw [← metBy_dedup]
  exact metBy_len _ _
section
variable {X : Cx} {P : Program} {w : World} {K : PySem.W.Frag}
end
end L2
namespace Fam
def sub (b a : Nat) : Prop := a &&& b = b
instance (b a : Nat) : Decidable (sub b a) := inferInstanceAs (Decidable (a &&& b = b))
theorem sub_iff {b a : Nat} : sub b a ↔ ∀ k, b.testBit k = true → a.testBit k = true := by
  unfold sub
  constructor
  · intro h k hk
    rw [← h, Nat.testBit_and, Bool.and_eq_true] at hk
    exact hk.1
  · intro h
    refine Nat.eq_of_testBit_eq fun k => ?_
    rw [Nat.testBit_and]
    cases hb : b.testBit k
    · simp
    · simp [h k hb]
def mt (a b : Nat) : Prop := a &&& b ≠ 0
instance (b a : Nat) : Decidable (mt b a) := inferInstanceAs (Decidable (b &&& a ≠ 0))
theorem mt_iff {a b : Nat} : mt a b ↔ ∃ k, a.testBit k = true ∧ b.testBit k = true := by
  unfold mt
  constructor
  · intro h
    obtain ⟨k, hk⟩ := Nat.exists_testBit_of_ne_zero h
    rw [Nat.testBit_and, Bool.and_eq_true] at hk
    exact ⟨k, hk⟩
  · rintro ⟨k, h1, h2⟩ e
    have := congrArg (fun z => Nat.testBit z k) e
    simp [Nat.testBit_and, h1, h2] at this
theorem mt_comm {a b : Nat} : mt a b ↔ mt b a := by unfold mt; rw [Nat.and_comm]
theorem bit_high {n a k : Nat} (h : a < 2 ^ n) (hk : n ≤ k) : a.testBit k = false := Nat.testBit_lt_two_pow (Nat.lt_of_lt_of_le h (Nat.pow_le_pow_right (by decide) hk))
theorem bit_low {n a k : Nat} (h : a < 2 ^ n) (hk : a.testBit k = true) : k < n := by
  rcases Nat.lt_or_ge k n with z | z
  · exact z
  · rw [bit_high h z] at hk; cases hk
def rst (m a : Nat) : Nat := 2 ^ m - (a + 1)
theorem rst_bit {m a : Nat} (h : a < 2 ^ m) (k : Nat) : (rst m a).testBit k = (decide (k < m) && !a.testBit k) := Nat.testBit_two_pow_sub_succ h k
theorem rst_lt (m a : Nat) : rst m a < 2 ^ m := by
  have := Nat.two_pow_pos m
  unfold rst
  omega
theorem sub_rst {m a b : Nat} (ha : a < 2 ^ m) (hb : b < 2 ^ m) : sub a (rst m b) ↔ ¬ mt a b := by
  rw [sub_iff, mt_iff]
  constructor
  · rintro h ⟨k, h1, h2⟩
    have := h k h1
    rw [rst_bit hb, h2] at this
    simp at this
  · intro h k hk
    rw [rst_bit hb]
    have hm := bit_low ha hk
    cases hb' : b.testBit k
    · simp [hm]
    · exact absurd ⟨k, hk, hb'⟩ h
def isMin (P : Nat → Bool) (L : List Nat) (a : Nat) : Prop := P a = true ∧ ∀ b ∈ L, P b = true → sub b a → b = a
instance (P : Nat → Bool) (L : List Nat) (a : Nat) : Decidable (isMin P L a) := inferInstanceAs (Decidable (_ ∧ _))
theorem rise_ext : ∀ {a b : List Nat}, a.Pairwise (· < ·) → b.Pairwise (· < ·) → (∀ x, x ∈ a ↔ x ∈ b) → a = b
  | [], [], _, _, _ => rfl
  | [], y :: b, _, _, h => absurd ((h y).mpr List.mem_cons_self) (by simp)
  | x :: a, [], _, _, h => absurd ((h x).mp List.mem_cons_self) (by simp)
  | x :: a, y :: b, ha, hb, h => by
    obtain ⟨a1, a2⟩ := List.pairwise_cons.mp ha
    obtain ⟨b1, b2⟩ := List.pairwise_cons.mp hb
    have e : x = y := by
      rcases List.mem_cons.mp ((h x).mp List.mem_cons_self) with z | z
      · exact z
      · rcases List.mem_cons.mp ((h y).mpr List.mem_cons_self) with q | q
        · exact q.symm
        · have := b1 x z
          have := a1 y q
          omega
    subst e
    congr 1
    refine rise_ext a2 b2 fun z => ?_
    constructor
    · intro hz
      rcases List.mem_cons.mp ((h z).mp (List.mem_cons_of_mem _ hz)) with q | q
      · have := a1 z hz; omega
      · exact q
    · intro hz
      rcases List.mem_cons.mp ((h z).mpr (List.mem_cons_of_mem _ hz)) with q | q
      · have := b1 z hz; omega
      · exact q
def hitP (fs : List Nat) (a : Nat) : Bool := fs.all fun b => decide (mt a b)
theorem hitP_iff {fs : List Nat} {a : Nat} : hitP fs a = true ↔ ∀ b ∈ fs, mt a b := by
  unfold hitP
  rw [List.all_eq_true]
  simp only [decide_eq_true_eq]
end Fam
namespace Fam
def isMax (L : List Nat) (a : Nat) : Prop := ∀ b ∈ L, sub a b → b = a
instance (L : List Nat) (a : Nat) : Decidable (isMax L a) := inferInstanceAs (Decidable (∀ b ∈ L, _))
def sayP (fs : List Nat) (a : Nat) : Bool := fs.any fun b => decide (sub b a)
theorem sayP_iff {fs : List Nat} {a : Nat} : sayP fs a = true ↔ ∃ b ∈ fs, sub b a := by
  unfold sayP
  rw [List.any_eq_true]
  simp only [decide_eq_true_eq]
def nms (n a : Nat) : List Nat := (List.range n).filter fun k => a.testBit k
theorem mem_nms {n a k : Nat} : k ∈ nms n a ↔ k < n ∧ a.testBit k = true := by
  unfold nms
  rw [List.mem_filter, List.mem_range]
def ofN (L : List Nat) : Nat := L.foldl (fun z k => z ||| 2 ^ k) 0
theorem ofN_bit (L : List Nat) (j : Nat) : (ofN L).testBit j = decide (j ∈ L) := by
  have key : ∀ (L : List Nat) (z : Nat), (L.foldl (fun z k => z ||| 2 ^ k) z).testBit j = (z.testBit j || decide (j ∈ L)) := fun L => by
    induction L with
    | nil => intro z; simp
    | cons k L ih =>
      intro z
      rw [List.foldl_cons, ih, Nat.testBit_or, Nat.testBit_two_pow, Bool.or_assoc]
      congr 1
      by_cases c : k = j
      · subst c; simp
      · simp [c, Ne.symm c]
  unfold ofN
  rw [key]
  simp
theorem ofN_lt {L : List Nat} {n : Nat} (h : ∀ k ∈ L, k < n) : ofN L < 2 ^ n := by
  refine Nat.lt_pow_two_of_testBit _ fun k hk => ?_
  rw [ofN_bit, decide_eq_false_iff_not]
  intro z
  have := h k z
  omega
def pc (n a : Nat) : Nat := (nms n a).length
end Fam
namespace L2
open PySem PySem.Spec PyProof.Rows
abbrev nI (fs : List Nat) : List Int := fs.map fun (n : Nat) => (n : Int)
abbrev nV (fs : List Nat) : List V := (nI fs).map V.int
theorem nV_len (fs : List Nat) : (nV fs).length = fs.length := by simp
theorem nV_at {fs : List Nat} {i a : Nat} (h : fs[i]? = some a) : (nV fs)[i]? = some (.int (a : Nat)) := by
  rw [List.getElem?_map, List.getElem?_map, h]
  rfl
theorem nI_inj {a b : List Nat} : nI a = nI b ↔ a = b := by
  constructor
  · intro h
    have : (nI a).map Int.toNat = (nI b).map Int.toNat := by rw [h]
    rw [nI, nI, List.map_map, List.map_map, show (Int.toNat ∘ fun (n : Nat) => (n : Int)) = id from funext fun n => Int.toNat_natCast n, List.map_id, List.map_id] at this
    exact this
  · rintro rfl; rfl
theorem eqVs_n (a b : List Nat) : eqVs (nV a) (nV b) = decide (a = b) := by
  rw [eqVs_ints]
  exact decide_eq_decide.mpr nI_inj
theorem flat_n (fs : List Nat) : (nV fs).all flatV = true := flat_ints _
theorem nonneg_nI {ms : List Int} (h : ∀ z ∈ ms, 0 ≤ z) : nI (ms.map Int.toNat) = ms := by
  rw [nI, List.map_map]
  conv => rhs; rw [← List.map_id ms]
  refine List.map_congr_left fun z hz => ?_
  have := h z hz
  show ((z.toNat : Nat) : Int) = z
  omega
def sd (fs : List Nat) : List Nat := (List.range (fs.foldl max 0 + 1)).filter fun x => decide (x ∈ fs)
theorem max_ge (fs : List Nat) : ∀ z, z ≤ fs.foldl max z ∧ ∀ x ∈ fs, x ≤ fs.foldl max z := by
  induction fs with
  | nil => intro z; exact ⟨Nat.le_refl _, fun x hx => by cases hx⟩
  | cons a fs ih =>
    intro z
    obtain ⟨h1, h2⟩ := ih (max z a)
    rw [List.foldl_cons]
    refine ⟨by omega, fun x hx => ?_⟩
    rcases List.mem_cons.mp hx with rfl | hx
    · omega
    · exact h2 x hx
theorem mem_sd {fs : List Nat} {x : Nat} : x ∈ sd fs ↔ x ∈ fs := by
  unfold sd
  rw [List.mem_filter, List.mem_range, decide_eq_true_eq]
  exact ⟨fun h => h.2, fun h => ⟨by have := (max_ge fs 0).2 x h; omega, h⟩⟩
theorem sd_rise (fs : List Nat) : (sd fs).Pairwise (· < ·) := List.pairwise_lt_range.sublist List.filter_sublist
theorem sd_eq {fs gs : List Nat} (h : gs.Pairwise (· < ·)) (e : ∀ x, x ∈ gs ↔ x ∈ fs) : gs = sd fs := Fam.rise_ext h (sd_rise fs) fun x => (e x).trans mem_sd.symm
theorem sorted_sd {fs : List Nat} {ms : List Int} (h1 : ms.Perm (dedup (nI fs))) (h2 : ms.Pairwise (· ≤ ·)) : ms = nI (sd fs) := by
  have nn : ∀ z ∈ ms, 0 ≤ z := fun z hz => by
    have := mem_dedup.mp (h1.mem_iff.mp hz)
    obtain ⟨a, _, rfl⟩ := List.mem_map.mp this
    omega
  have e := nonneg_nI nn
  rw [← e]
  congr 1
  have nd : ms.Nodup := h1.nodup_iff.mpr (nodup_dedup _)
  refine sd_eq ?_ fun x => ?_
  · rw [List.pairwise_map]
    have := List.pairwise_iff_getElem.mp h2
    have nd' := List.pairwise_iff_getElem.mp nd
    rw [List.pairwise_iff_getElem]
    intro i j hi hj hij
    have a1 := this i j hi hj hij
    have a2 : ms[i] ≠ ms[j] := nd' i j hi hj hij
    have a3 := nn ms[i] (List.getElem_mem _)
    omega
  · rw [List.mem_map]
    constructor
    · rintro ⟨z, hz, rfl⟩
      have := mem_dedup.mp (h1.mem_iff.mp hz)
      obtain ⟨a, ha, rfl⟩ := List.mem_map.mp this
      simpa using ha
    · intro hx
      exact ⟨x, h1.mem_iff.mpr (mem_dedup.mpr (List.mem_map.mpr ⟨x, hx, rfl⟩)), by simp⟩
theorem sorted_nd {fs : List Nat} {ms : List Int} (hn : fs.Nodup) (h1 : ms.Perm (nI fs)) (h2 : ms.Pairwise (· ≤ ·)) : ms = nI (sd fs) := by
  refine sorted_sd (h1.trans ?_) h2
  have : (nI fs).Nodup := by
    rw [nI, List.Nodup, List.pairwise_map]
    exact hn.imp fun h e => h (by omega)
  refine (List.perm_ext_iff_of_nodup this (nodup_dedup _)).mpr fun z => ?_
  rw [mem_dedup]
end L2
namespace L2
open PySem PySem.Spec PyProof.Rows
section
variable {K : PySem.W.Frag} {g : TG} {σ : St} {H : Hp} {a : Addr} {xs : List V} {nt : Nat} {caps : List Nat} {tt : TT} {te : TE} {Q : VK}
theorem compLg (Pv : Nat → List V → Hp → Prop) (h0 : Pv 0 [] H) (hz : xs.length ≤ sizeLine) (hl : ∀ i ys H1, i ≤ xs.length → Pv i ys H1 → SqL K H1 a xs ∧ ys.length ≤ i)
    (hs : ∀ i x ys H1, xs[i]? = some x → Pv i ys H1 → ∀ (R : VK) (R' : Hp → Prop), (∀ y H2, Pv (i + 1) (ys ++ [y]) H2 → R y H2) → (∀ H2, Pv (i + 1) ys H2 → R' H2) →
      g x (capSt nt caps σ) H1 fun σ4 H4 => tt σ4 H4 fun b H5 => if b = true then te σ4 H5 R else R' H5)
    (hd : ∀ ys H1, Pv xs.length ys H1 → ∀ p, H1 p = none → Q (.ref p) (upd H1 p (.lst ys))) : CompJ (Itl K a) nt caps g tt te σ H Q := by
  refine ⟨fun i m ys H1 => m = xs.length - i ∧ i ≤ xs.length ∧ Pv i ys H1, ⟨_, rfl, Nat.zero_le _, h0⟩, ?_⟩
  rintro i m ys H2 ⟨rfl, hi, p⟩
  obtain ⟨q, hy⟩ := hl i ys H2 hi p
  by_cases hlt : i < xs.length
  · refine .inr ⟨⟨xs, xs[i], q, by simp [hlt]⟩, by omega, fun x H3 y => ?_⟩
    obtain ⟨e, y⟩ := y
    subst e
    exact hs i x ys _ (y xs q) p _ _ (fun v H4 w => ⟨xs.length - (i + 1), by omega, rfl, hlt, w⟩) fun H4 w => ⟨xs.length - (i + 1), by omega, rfl, hlt, w⟩
  · obtain rfl : i = xs.length := by omega
    exact .inl ⟨⟨xs, q, Nat.le_refl _⟩, by omega, hd ys H2 p⟩
end
theorem small5 {n : Nat} (h : n ≤ 100000) : n ≤ sizeLine := Nat.le_trans h (by decide)
theorem small5' {n : Nat} (h : n ≤ 100000) : n < sizeLine := Nat.lt_of_le_of_lt h (by decide)
theorem ite_of {b : Bool} {A B : Prop} (h1 : b = true → A) (h2 : b = false → B) : if b = true then A else B := by
  cases b
  · exact iteF (h2 rfl)
  · exact iteT (h1 rfl)
theorem new_at {H H' : Hp} {p : Addr} {o : HO} (e : upd H p o = H') : H' p = some o := e ▸ upd_same
theorem new_sm {H H' : Hp} {p : Addr} {o : HO} (e : upd H p o = H') (h : H p = none) : Same H H' := e ▸ Same.new h
theorem ne_new {H : Hp} {p q : Addr} {o : HO} (h : H p = none) (hq : H q = some o) : q ≠ p := fun z => by rw [z, h] at hq; cases hq
theorem old_none {H H' : Hp} {p : Addr} (s : Same H H') (h : H' p = none) : H p = none := by
  cases e : H p with
  | none => rfl
  | some o => rw [s _ _ e] at h; cases h
theorem atI_n {fs : List Nat} {i b : Nat} (h : fs[i]? = some b) : atI (nV fs) (i : Int) = some (.int (b : Nat)) := by
  have hl := (List.getElem?_eq_some_iff.mp h).1
  unfold atI ixN
  rw [if_pos (by omega), if_pos (by rw [nV_len]; omega)]
  show (nV fs)[(i : Int).toNat]? = _
  rw [Int.toNat_natCast]
  exact nV_at h
theorem sd_le (fs : List Nat) {n : Nat} (h : fs.length ≤ n) : (sd fs).length ≤ n := by
  have nd : (nI (sd fs)).Nodup := by
    rw [nI, List.Nodup, List.pairwise_map]
    exact (sd_rise fs).imp fun h e => by omega
  have p : (nI (sd fs)).Perm (dedup (nI fs)) := (List.perm_ext_iff_of_nodup nd (nodup_dedup _)).mpr fun z => by
    rw [mem_dedup, List.mem_map, List.mem_map]
    exact ⟨fun ⟨x, hx, e⟩ => ⟨x, mem_sd.mp hx, e⟩, fun ⟨x, hx, e⟩ => ⟨x, mem_sd.mpr hx, e⟩⟩
  have e1 := p.length_eq
  have e2 := dedup_len (nI fs)
  simp at e1 e2
  omega
end L2
namespace L2
open PySem PySem.Spec PyProof.Rows
theorem cut_take (xs : List V) (n : Nat) : cutV xs none (some (n : Int)) = xs.take n := by
  unfold cutV
  rw [HT.sIx_nat]
  show (xs.drop 0).take (min n xs.length - 0) = _
  rw [List.drop_zero, Nat.sub_zero, List.take_eq_take_iff]
  omega
theorem cut_drop (xs : List V) (n : Nat) : cutV xs (some (n : Int)) none = xs.drop n := by
  unfold cutV
  rw [HT.sIx_nat]
  show (xs.drop (min n xs.length)).take (xs.length - min n xs.length) = _
  rcases Nat.lt_or_ge n xs.length with z | z
  · rw [Nat.min_eq_left (Nat.le_of_lt z), ← List.length_drop, List.take_length]
  · rw [Nat.min_eq_right z, List.drop_eq_nil_of_le z, List.drop_eq_nil_of_le (Nat.le_refl _)]
    simp
end L2
namespace L2
open PySem PySem.Spec PyProof.Rows
section
variable {K : PySem.W.Frag} {g : TG} {tb : TS} {D : Ends} {σ : St} {H : Hp} {a : Addr} {xs : List V} {c : TT}
theorem loopRn {n : Nat} (Pv : Nat → St → Hp → Prop) (h0 : Pv 0 σ H)
    (hs : ∀ i σ H, i < n → Pv i σ H → ∀ N : St → Hp → Prop, (∀ σ' H', Pv (i + 1) σ' H' → N σ' H') → g (.int (i : Nat)) σ H fun σ2 H2 => tb { D with nx := N, ct := N, bk := D.nx } σ2 H2) (hd : ∀ σ H, Pv n σ H → D.nx σ H) : LoopJ (Itr 0 n) g tb D σ H :=
  loopR Pv h0 (fun i σ H hi p => by rw [Int.zero_add]; exact hs i σ H hi p _ fun _ _ q => q) hd
theorem loopLn (Pv : Nat → St → Hp → Prop) (h0 : Pv 0 σ H) (hl : ∀ i σ H, i ≤ xs.length → Pv i σ H → SqL K H a xs)
    (hs : ∀ i x σ H, xs[i]? = some x → Pv i σ H → ∀ N : St → Hp → Prop, (∀ σ' H', Pv (i + 1) σ' H' → N σ' H') → g x σ H fun σ2 H2 => tb { D with nx := N, ct := N, bk := D.nx } σ2 H2) (hd : ∀ σ H, Pv xs.length σ H → D.nx σ H) : LoopJ (Itl K a) g tb D σ H :=
  loopL Pv h0 hl (fun i x σ H hx p => hs i x σ H hx p _ fun _ _ q => q) hd
end
end L2
namespace L2
open PySem PySem.Spec PyProof.Rows
theorem shr_bit (a k : Nat) : Builtin.bitAnd ((a : Int) / 2 ^ ((k : Nat) : Int).toNat) 1 = if a.testBit k = true then 1 else 0 := by
  have e : (a : Int) / 2 ^ ((k : Nat) : Int).toNat = ((a / 2 ^ k : Nat) : Int) := by rw [Int.toNat_natCast, pow_cast]; rfl
  rw [e, show (1 : Int) = ((1 : Nat) : Int) from rfl, and_nat, Nat.and_one_is_mod, Nat.testBit_eq_decide_div_mod_eq]
  by_cases c : a / 2 ^ k % 2 = 1
  · simp [c]
  · have : a / 2 ^ k % 2 = 0 := by omega
    simp [this]
theorem shr_one (a k : Nat) : decide (Builtin.bitAnd ((a : Int) / 2 ^ ((k : Nat) : Int).toNat) 1 = 1) = a.testBit k := by
  rw [shr_bit]
  cases a.testBit k <;> rfl
theorem shr_nil (a k : Nat) : decide (Builtin.bitAnd ((a : Int) / 2 ^ ((k : Nat) : Int).toNat) 1 = 0) = !a.testBit k := by
  rw [shr_bit]
  cases a.testBit k <;> rfl
theorem shr_iff {a k : Nat} : Builtin.bitAnd ((a : Int) / 2 ^ ((k : Nat) : Int).toNat) 1 = 1 ↔ a.testBit k = true := by
  rw [← shr_one, decide_eq_true_eq]
theorem shl_one (k : Nat) : (1 : Int) * 2 ^ ((k : Nat) : Int).toNat = ((2 ^ k : Nat) : Int) := by rw [Int.one_mul, Int.toNat_natCast, pow_cast]
end L2
namespace Fam
def more (a k : Nat) : Nat := a + 2 ^ k
end Fam
namespace Fam
end Fam
namespace Fam
theorem nodup_le : ∀ (n : Nat) (L : List Nat), L.Nodup → (∀ x ∈ L, x < n) → L.length ≤ n
  | 0, L, _, h => by
    cases L with
    | nil => exact Nat.le_refl _
    | cons a r => exact absurd (h a (by simp)) (by omega)
  | n + 1, L, hn, h => by
    by_cases hm : n ∈ L
    · have h1 := nodup_le n (L.erase n) (hn.erase n) fun x hx => by
        obtain ⟨h2, h3⟩ := hn.mem_erase_iff.mp hx
        have := h x h3
        omega
      rw [List.length_erase_of_mem hm] at h1
      omega
    · have := nodup_le n L hn fun x hx => by
        have := h x hx
        have : x ≠ n := fun z => hm (z ▸ hx)
        omega
      omega
end Fam
namespace Fam
end Fam
namespace Fam
theorem hit_say {m : Nat} {X : List Nat} (hb : ∀ b ∈ X, b < 2 ^ m) {a : Nat} (ha : a < 2 ^ m) : hitP X a = !sayP X (rst m a) := by
  rw [Bool.eq_iff_iff, hitP_iff]
  constructor
  · intro h
    cases e : sayP X (rst m a) with
    | false => rfl
    | true =>
      obtain ⟨b, h1, h2⟩ := sayP_iff.mp e
      exact absurd (mt_comm.mp (h b h1)) ((sub_rst (hb b h1) ha).mp h2)
  · intro h b h1
    apply Classical.byContradiction
    intro z
    have := (sub_rst (hb b h1) ha).mpr fun y => z (mt_comm.mp y)
    rw [sayP_iff.mpr ⟨b, h1, this⟩] at h
    cases h
end Fam
namespace Fam
structure Ord (m : Nat) (o : List Nat) : Prop where
  len : o.length = m
  lt : ∀ x ∈ o, x < m
  nd : o.Nodup
def at' (o : List Nat) (k : Nat) : Nat := o.getD k 0
theorem Ord.get {m : Nat} {o : List Nat} (h : Ord m o) {k : Nat} (hk : k < m) : o[k]? = some (at' o k) := by
  unfold at'
  rw [List.getD_eq_getElem?_getD, List.getElem?_eq_getElem (by rw [h.len]; exact hk)]
  rfl
theorem Ord.at_lt {m : Nat} {o : List Nat} (h : Ord m o) {k : Nat} (hk : k < m) : at' o k < m := h.lt _ (List.mem_of_getElem? (h.get hk))
theorem Ord.inj {m : Nat} {o : List Nat} (h : Ord m o) {j k : Nat} (hj : j < m) (hk : k < m) (e : at' o j = at' o k) : j = k := by
  have h1 := h.get hj
  have h2 := h.get hk
  have l := h.len
  obtain ⟨w1, g1⟩ := List.getElem?_eq_some_iff.mp h1
  obtain ⟨w2, g2⟩ := List.getElem?_eq_some_iff.mp h2
  have nd := List.pairwise_iff_getElem.mp h.nd
  rcases Nat.lt_trichotomy j k with z | z | z
  · exact absurd (by rw [g1, g2, e]) (nd j k w1 w2 z)
  · exact z
  · exact absurd (by rw [g1, g2, e]) (nd k j w2 w1 z)
theorem Ord.sur {m : Nat} {o : List Nat} (h : Ord m o) {j : Nat} (hj : j < m) : ∃ k, k < m ∧ at' o k = j := by
  by_cases hm : j ∈ o
  · obtain ⟨k, hk, e⟩ := List.getElem_of_mem hm
    have hk' : k < m := by rw [← h.len]; exact hk
    refine ⟨k, hk', ?_⟩
    have := h.get hk'
    rw [List.getElem?_eq_getElem hk, e] at this
    exact (Option.some.inj this).symm
  · have := nodup_le m (j :: o) (List.nodup_cons.mpr ⟨hm, h.nd⟩) (fun x hx => by
      rcases List.mem_cons.mp hx with rfl | z
      · exact hj
      · exact h.lt x z)
    rw [List.length_cons, h.len] at this
    omega
def ex (o : List Nat) (a : Nat) : Nat := ofN ((nms 8 a).map (at' o))
theorem ex_bit {o : List Nat} {a j : Nat} : (ex o a).testBit j = true ↔ ∃ k, k < 8 ∧ a.testBit k = true ∧ at' o k = j := by
  unfold ex
  rw [ofN_bit, decide_eq_true_eq, List.mem_map]
  constructor
  · rintro ⟨k, hk, e⟩
    obtain ⟨h1, h2⟩ := mem_nms.mp hk
    exact ⟨k, h1, h2, e⟩
  · rintro ⟨k, h1, h2, e⟩
    exact ⟨k, mem_nms.mpr ⟨h1, h2⟩, e⟩
section
variable {m : Nat} {o : List Nat}
theorem ex_lt (h : Ord m o) {a : Nat} (ha : a < 2 ^ m) : ex o a < 2 ^ m := by
  unfold ex
  refine ofN_lt fun j hj => ?_
  obtain ⟨k, hk, rfl⟩ := List.mem_map.mp hj
  exact h.at_lt (bit_low ha (mem_nms.mp hk).2)
theorem ex_at (hm : m ≤ 8) (h : Ord m o) {a k : Nat} (ha : a < 2 ^ m) (hk : k < m) : (ex o a).testBit (at' o k) = a.testBit k := by
  rw [Bool.eq_iff_iff, ex_bit]
  constructor
  · rintro ⟨j, _, h1, e⟩
    rw [← h.inj (bit_low ha h1) hk e]
    exact h1
  · intro hb
    exact ⟨k, by omega, hb, rfl⟩
theorem ex_ext (h : Ord m o) {x y : Nat} (hx : x < 2 ^ m) (hy : y < 2 ^ m) (q : ∀ k, k < m → x.testBit (at' o k) = y.testBit (at' o k)) : x = y := by
  apply Nat.eq_of_testBit_eq
  intro j
  rcases Nat.lt_or_ge j m with z | z
  · obtain ⟨k, hk, rfl⟩ := h.sur z
    exact q k hk
  · rw [bit_high hx z, bit_high hy z]
theorem ex_sub (hm : m ≤ 8) (h : Ord m o) {a b : Nat} (ha : a < 2 ^ m) (hb : b < 2 ^ m) : sub (ex o b) (ex o a) ↔ sub b a := by
  rw [sub_iff, sub_iff]
  constructor
  · intro q k hk
    have km := bit_low hb hk
    have := q (at' o k) (by rw [ex_at hm h hb km]; exact hk)
    rw [ex_at hm h ha km] at this
    exact this
  · intro q j hj
    obtain ⟨k, k8, h1, e⟩ := ex_bit.mp hj
    exact ex_bit.mpr ⟨k, k8, q k h1, e⟩
def back (o : List Nat) : List Nat := (List.range o.length).map fun j => o.idxOf j
def Ex (o : List Nat) (L E : List Nat) : Prop := ∀ x, x ∈ E ↔ ∃ b ∈ L, ex o b = x
theorem Ex.say (hm : m ≤ 8) (h : Ord m o) {L E : List Nat} (q : Ex o L E) (hb : ∀ b ∈ L, b < 2 ^ m) {a : Nat} (ha : a < 2 ^ m) : sayP E (ex o a) = sayP L a := by
  rw [Bool.eq_iff_iff, sayP_iff, sayP_iff]
  constructor
  · rintro ⟨x, hx, s⟩
    obtain ⟨b, h1, rfl⟩ := (q x).mp hx
    exact ⟨b, h1, (ex_sub hm h ha (hb b h1)).mp s⟩
  · rintro ⟨b, h1, s⟩
    exact ⟨_, (q _).mpr ⟨b, h1, rfl⟩, (ex_sub hm h ha (hb b h1)).mpr s⟩
theorem Ex.lt (h : Ord m o) {L E : List Nat} (q : Ex o L E) (hb : ∀ b ∈ L, b < 2 ^ m) : ∀ b ∈ E, b < 2 ^ m := fun x hx => by
  obtain ⟨b, h1, rfl⟩ := (q x).mp hx
  exact ex_lt h (hb b h1)
theorem rst_ex (hm : m ≤ 8) (h : Ord m o) {a : Nat} (ha : a < 2 ^ m) : rst m (ex o a) = ex o (rst m a) := by
  have h1 := rst_lt m a
  refine ex_ext h (rst_lt m _) (ex_lt h h1) fun k hk => ?_
  rw [rst_bit (ex_lt h ha), ex_at hm h ha hk, ex_at hm h h1 hk, rst_bit ha]
  simp [hk, h.at_lt hk]
theorem Ex.hit (hm : m ≤ 8) (h : Ord m o) {L E : List Nat} (q : Ex o L E) (hb : ∀ b ∈ L, b < 2 ^ m) {a : Nat} (ha : a < 2 ^ m) : hitP E (ex o a) = hitP L a := by
  rw [hit_say (q.lt h hb) (ex_lt h ha), hit_say hb ha, rst_ex hm h ha, q.say hm h hb (rst_lt m a)]
end
end Fam
namespace Fam
end Fam
namespace Fam
end Fam
namespace Fam
end Fam
namespace L2
open PySem PySem.Spec PyProof.Rows
inductive Deq (K : PySem.W.Frag) (H : Hp) : Nat → V → V → Bool → Prop where
  | flat {n : Nat} {x y : V} : flatV x = true → flatV y = true → Deq K H n x y (eqV x y)
  | lst {n : Nat} {a b : Addr} {xs ys : List V} {e : Nat → Bool} : a ≠ b → SqL K H a xs → SqL K H b ys → xs.length = ys.length → (∀ (j : Nat) (x y : V), xs[j]? = some x → ys[j]? = some y → Deq K H n x y (e j)) → Deq K H (n + 1) (.ref a) (.ref b) ((List.range xs.length).all e)
  | lstN {n : Nat} {a b : Addr} {xs ys : List V} : a ≠ b → SqL K H a xs → SqL K H b ys → xs.length ≠ ys.length → Deq K H (n + 1) (.ref a) (.ref b) false
  | tup {n : Nat} {a b : Addr} {xs ys : List V} {e : Nat → Bool} : a ≠ b → SqT K H a xs → SqT K H b ys → (∀ (j : Nat) (x y : V), xs[j]? = some x → ys[j]? = some y → Deq K H n x y (e j)) → Deq K H (n + 1) (.ref a) (.ref b) ((List.range (min xs.length ys.length)).all e && xs.length == ys.length)
section
variable {X : Cx} {pins : List (Addr × Obj)} {σ : St} {H : Hp} {s : Shared} {K : PySem.W.Frag}
theorem at_of {xs : List V} {us : List Value} (r : Vals xs us) {j : Nat} (h : j < us.toArray.size) : ∃ x, xs[j]? = some x ∧ RelV x us.toArray[j] := by
  have l := r.length
  rw [List.size_toArray] at h
  have e : xs[j]? = some (xs[j]'(by omega)) := List.getElem?_eq_getElem _
  obtain ⟨u, hu, ru⟩ := r.get e
  have : us.toArray[j]'(by rw [List.size_toArray]; exact h) = u := by
    rw [List.getElem_toArray]
    exact Option.some.inj ((List.getElem?_eq_getElem h).symm.trans hu)
  exact ⟨_, e, this ▸ ru⟩
theorem deq_at (I : Inv X pins σ H s) {n : Nat} {x y : V} {b : Bool} (d : Deq X.K H n x y b) : ∀ {A : Around} {u v : Value}, A.units + n < cLine → RelV x u → RelV y v → SeqAt.EqAt A s u v b := by
  induction d with
  | flat f1 f2 => exact fun _ rx ry => eqAt_V rx ry f1 f2
  | @lst n a b xs ys e hne ha hb hl hd ih =>
    intro A u v hu rx ry
    cases rx
    cases ry
    obtain ⟨us, r1, p1, _⟩ := I.list ha
    obtain ⟨ws, r2, p2, _⟩ := I.list hb
    have l1 := r1.length
    have l2 := r2.length
    refine SeqAt.EqAt.of_refs hne ?_
    rw [show xs.length = us.toArray.size by rw [List.size_toArray]; exact l1]
    refine SeqAt.RcAt.lists p1.isList p2.isList (by simp only [List.size_toArray]; omega) (by omega) fun j h1 h2 => ?_
    obtain ⟨x, ex, rx⟩ := at_of r1 h1
    obtain ⟨y, ey, ry⟩ := at_of r2 h2
    exact ih j x y ex ey (by have := A.in1_units; omega) rx ry
  | @lstN n a b xs ys hne ha hb hl =>
    intro A u v hu rx ry
    cases rx
    cases ry
    obtain ⟨us, r1, p1, _⟩ := I.list ha
    obtain ⟨ws, r2, p2, _⟩ := I.list hb
    have l1 := r1.length
    have l2 := r2.length
    exact SeqAt.EqAt.of_refs hne (SeqAt.RcAt.lists_lengths p1.isList p2.isList (by simp only [List.size_toArray, bne_iff_ne]; omega) (by omega))
  | @tup n a b xs ys e hne ha hb hd ih =>
    intro A u v hu rx ry
    cases rx
    cases ry
    obtain ⟨us, r1, p1, _⟩ := I.tuple ha
    obtain ⟨ws, r2, p2, _⟩ := I.tuple hb
    have l1 := r1.length
    have l2 := r2.length
    refine SeqAt.EqAt.of_refs hne ?_
    rw [show xs.length = us.toArray.size by rw [List.size_toArray]; exact l1, show ys.length = ws.toArray.size by rw [List.size_toArray]; exact l2]
    refine SeqAt.RcAt.tuples p1 p2 (by omega) fun j h1 h2 => ?_
    obtain ⟨x, ex, rx⟩ := at_of r1 h1
    obtain ⟨y, ey, ry⟩ := at_of r2 h2
    exact ih j x y ex ey (by have := A.in1_units; omega) rx ry
def rNeD (K : PySem.W.Frag) : R2 := fun x y H Q => ∃ (n : Nat) (b : Bool) (p : Addr), n ≤ 50 ∧ x = .ref p ∧ Deq K H (n + 1) x y b ∧ Q (.bl (!b)) H
theorem op_neD (hK : X.K = K) (hu : X.A.units + 64 < cLine) : OpR X (compareOp .NotEq) (rNeD K) := by
  subst hK
  intro pins s σ H x y v u Q I rx ry h
  obtain ⟨n, b, p, hn, rfl, d, q⟩ := h
  generalize hm : n + 1 = m at d
  generalize hx : V.ref p = z at d rx
  cases d with
  | flat f1 f2 => rw [← hx] at f1; cases f1
  | @lst n a b xs ys e hne ha hb hl hd =>
    cases rx
    cases ry
    obtain ⟨us, r1, p1, _⟩ := I.list ha
    obtain ⟨ws, r2, p2, _⟩ := I.list hb
    have l1 := r1.length
    have l2 := r2.length
    rw [show xs.length = us.toArray.size by rw [List.size_toArray]; exact l1] at q
    refine SeqAt.RcNeAt.lists p1.isList p2.isList (by simp only [List.size_toArray]; omega) (by omega) (fun j h1 h2 => ?_) X.prog X.w _ _ ⟨.bl _, H, I, rfl, q⟩
    obtain ⟨x, ex, rx⟩ := at_of r1 h1
    obtain ⟨y, ey, ry⟩ := at_of r2 h2
    exact deq_at I (hd j x y ex ey) (by have := X.A.in1_units; omega) rx ry
  | @lstN n a b xs ys hne ha hb hl =>
    cases rx
    cases ry
    obtain ⟨us, r1, p1, _⟩ := I.list ha
    obtain ⟨ws, r2, p2, _⟩ := I.list hb
    have l1 := r1.length
    have l2 := r2.length
    exact SeqAt.RcNeAt.lists_lengths p1.isList p2.isList (by simp only [List.size_toArray, bne_iff_ne]; omega) (by omega) X.prog X.w _ _ ⟨.bl _, H, I, rfl, q⟩
  | @tup n a b xs ys e hne ha hb hd =>
    cases rx
    cases ry
    obtain ⟨us, r1, p1, _⟩ := I.tuple ha
    obtain ⟨ws, r2, p2, _⟩ := I.tuple hb
    have l1 := r1.length
    have l2 := r2.length
    rw [show xs.length = us.toArray.size by rw [List.size_toArray]; exact l1, show ys.length = ws.toArray.size by rw [List.size_toArray]; exact l2] at q
    refine SeqAt.RcNeAt.tuples p1 p2 (by omega) (fun j h1 h2 => ?_) X.prog X.w _ _ ⟨.bl _, H, I, rfl, q⟩
    obtain ⟨x, ex, rx⟩ := at_of r1 h1
    obtain ⟨y, ey, ry⟩ := at_of r2 h2
    exact deq_at I (hd j x y ex ey) (by have := X.A.in1_units; omega) rx ry
end
end L2
namespace L2
open PySem PySem.Spec PyProof.Rows
theorem eqVs_all (xs ys : List V) : eqVs xs ys = ((xs.length == ys.length) && (List.range xs.length).all fun j => eqV (xs.getD j .non) (ys.getD j .non)) := rfl
theorem deq_flat {K : PySem.W.Frag} {H : Hp} {n : Nat} {a b : Addr} {xs ys : List V} (hne : a ≠ b) (h1 : H a = some (.lst xs)) (h2 : H b = some (.lst ys)) (f1 : xs.all flatV = true) (f2 : ys.all flatV = true) : Deq K H (n + 1) (.ref a) (.ref b) (eqVs xs ys) := by
  rw [eqVs_all]
  by_cases hl : xs.length = ys.length
  · rw [show (xs.length == ys.length) = true from beq_iff_eq.mpr hl, Bool.true_and]
    refine Deq.lst hne (SqL.of h1) (SqL.of h2) hl fun j x y hx hy => ?_
    rw [List.getD_eq_getElem?_getD, List.getD_eq_getElem?_getD, hx, hy]
    exact Deq.flat (List.all_eq_true.mp f1 x (List.mem_of_getElem? hx)) (List.all_eq_true.mp f2 y (List.mem_of_getElem? hy))
  · rw [show (xs.length == ys.length) = false from beq_eq_false_iff_ne.mpr hl, Bool.false_and]
    exact Deq.lstN hne (SqL.of h1) (SqL.of h2) hl
theorem deq_pairL {K : PySem.W.Frag} {H : Hp} {n : Nat} {a b : Addr} {x1 x2 y1 y2 : V} {e1 e2 : Bool} (hne : a ≠ b) (h1 : H a = some (.lst [x1, x2])) (h2 : H b = some (.lst [y1, y2])) (d1 : Deq K H n x1 y1 e1) (d2 : Deq K H n x2 y2 e2) : Deq K H (n + 1) (.ref a) (.ref b) (e1 && e2) := by
  have := Deq.lst (n := n) (e := fun j => if j = 0 then e1 else e2) hne (SqL.of (K := K) h1) (SqL.of h2) rfl (fun j x' y' hx hy => by
    match j with
    | 0 => cases hx; cases hy; exact d1
    | 1 => cases hx; cases hy; exact d2
    | j + 2 => cases hx)
  have e : ((List.range [x1, x2].length).all fun j => if j = 0 then e1 else e2) = (e1 && e2) := by
    show (List.range 2).all _ = _
    simp [List.range_succ]
  rw [e] at this
  exact this
theorem neD_of {K : PySem.W.Frag} {H : Hp} {Q : VK} {n : Nat} {p q : Addr} {b : Bool} (hn : n ≤ 50) (d : Deq K H (n + 1) (.ref p) (.ref q) b) (h : Q (.bl (!b)) H) : rNeD K (.ref p) (.ref q) H Q := ⟨n, b, p, hn, rfl, d, h⟩
end L2
namespace L2
open PySem PySem.Spec PyProof.Rows
section
variable {X : Cx} {es : List Expr} {t : TA} {te : TE}
theorem pa_consC {v j p} (ha : PE X (.Constant v j p) te) (hr : PA X es t) : PA X (.Constant v j p :: es) (tCons te t) := pa_cons ha hr
theorem pa_consN {x p} (ha : PE X (.Name x p) te) (hr : PA X es t) : PA X (.Name x p :: es) (tCons te t) := pa_cons ha hr
inductive CI : List Expr → List Int → Prop
  | nil : CI [] []
  | cons {i : Int} {j : Nat} {p : Pos} {es : List Expr} {ns : List Int} (h : CI es ns) : CI (.Constant (.int i) j p :: es) (i :: ns)
def tInts (ns : List Int) : TA := fun _ H Q => Q (ns.map V.int) H
end
end L2
namespace L2
open PySem PySem.Spec PyProof.Rows
section
variable {X : Cx} {K : PySem.W.Frag}
end
end L2
namespace L2
open PySem PySem.Spec PyProof.Rows
inductive DI : List Expr → TA → Prop
  | nil : DI [] tNil
  | c {v : Const} {j : Nat} {p : Pos} {es : List Expr} {te : TE} {t : TA} (h : ∀ X, PE X (.Constant v j p) te) (r : DI es t) : DI (.Constant v j p :: es) (tCons te t)
  | t {xs : List Expr} {b p} {es : List Expr} {te : TE} {t : TA} (h : ∀ X, PE X (.Tuple xs b p) te) (r : DI es t) : DI (.Tuple xs b p :: es) (tCons te t)
  | d {ks vs p} {es : List Expr} {te : TE} {t : TA} (h : ∀ X, PE X (.Dict ks vs p) te) (r : DI es t) : DI (.Dict ks vs p :: es) (tCons te t)
  | l {xs : List Expr} {p} {es : List Expr} {te : TE} {t : TA} (h : ∀ X, PE X (.List xs p) te) (r : DI es t) : DI (.List xs p :: es) (tCons te t)
end L2
namespace L2
open PySem PySem.Spec PyProof.Rows STb
section
variable {prog : Program} {w : World} {A : Around} {E : Value → Shared → Prop} {s : Shared}
theorem mix_int {k : Int} {v : Value} (h : (mixKind prog w).is (Sum.inl k) v = true) : ∃ t, v = .int k t := by
  have h' : (intKind prog w).is k v = true := h
  have := kI_is.mp h'
  cases v with
  | int i t =>
    have e : i = k := by simpa [kI] using this
    exact ⟨t, by rw [e]⟩
  | _ => simp [kI] at this
theorem keys_ints : ∀ (ks : List Int) (vs : List (Key × Value)) (us : List Value), vs.map (·.1) = ks.map Sum.inl → us.length = vs.length → (∀ (j : Nat) (v : Value), us[j]? = some v → ∃ k x, vs[j]? = some (k, x) ∧ (mixKind prog w).is k v = true) → IntsAre us ks
  | [], [], us, _, hl, _ => by rw [List.length_eq_zero_iff.mp hl]; exact .nil
  | k :: ks, (k', x) :: vs, us, he, hl, h => by
    cases us with
    | nil => cases hl
    | cons u us =>
      have he' : k' = Sum.inl k ∧ vs.map (·.1) = ks.map Sum.inl := by simpa using he
      obtain ⟨k2, x2, e, hi⟩ := h 0 u rfl
      cases e
      rw [he'.1] at hi
      obtain ⟨t, rfl⟩ := mix_int hi
      exact .cons k t (keys_ints ks vs us he'.2 (by simpa using hl) fun j v hj => h (j + 1) v hj)
  | [], _ :: _, _, he, _, _ => by simp at he
  | _ :: _, [], _, he, _, _ => by simp at he
theorem sorted_dict {d : Addr} {vs : List (Key × Value)} {ep : Nat} {ks : List Int} {Q : Value → Shared → Prop} (hh : A.handled = none) (lo : (d == sysModules) = false) (hm : s.heap.DictAt (mixKind prog w) d vs ep) (hks : vs.map (·.1) = ks.map Sum.inl) (hbig : ks.length ≤ 63)
    (h : ∀ (h1 : Heap) (tk : Nat) (l : Addr) (us : List Value) (ms : List Int) (n : Nat) (s' : Shared), (∀ b o, s.heap.get? b = some o → h1.get? b = some o) → IntsAre us ms → ms.Perm ks → ms.Pairwise (· ≤ ·) → h1.objs.size ≤ l → s'.heap.get? l = some { cls := .type "list", data := .seq us.toArray n } → (∀ b o, h1.get? b = some o → s'.heap.get? b = some o) → s'.gens = s.gens → s'.os = s.os → Q (.ref l) s') : wpAny (model prog w) A (call (.builtin "sorted") [.ref d]) Q E s := by
  refine Calls.call_function_entry kind_sorted plain_sorted entry_sorted (args_sorted1 _) ?_
  unfold Builtin.«sorted»
  refine wpAny_bind (m := checkCount "sorted" 1 1 _) (wpAny_pure ?_)
  have hlv : vs.length = ks.length := by have := congrArg List.length hks; simpa using this
  refine wpAny_bind (PySem.W.kdu_collect (PySem.W.kdl_dict (knd := mixKind prog w) (kvs := vs) (ep := ep) lo) (by first | exact hh | simp [hh]) hm (Nat.le_trans (show vs.length ≤ 63 by omega) (by decide)) fun h1 tk acc kp hit => ?_)
  have hi : IntsAre acc.toList ks := keys_ints (prog := prog) (w := w) ks vs acc.toList hks (by rw [Array.length_toList]; exact hit.1) fun j v hj => hit.2 j v (by rw [← Array.getElem?_toList]; exact hj)
  have hv : acc.toList.length ≤ 63 := by
    have := hi.length
    omega
  generalize acc.toList = us at hi hv ⊢
  have hz : us.length ≤ sizeLine := Nat.le_trans hv (by decide)
  refine wpAny_bind (wpAny_newList ?_ hz)
  have g1 : (h1.push (seqObj "list" us.toArray 0)).get? h1.objs.size = some (seqObj "list" us.toArray 0) := Heap.get?_push_size _ rfl
  refine wpAny_bind (wpAny_holding (wpAny_call_entry slot_list_sort ⟨_, g1, rfl⟩ entry_list_sort (Tim.sort_any g1 hi hv fun out ns' a1 a2 a3 => ⟨_, rfl, ?_⟩) (args_list_sort _)))
  obtain ⟨e, he⟩ : ∃ e, (sortedHeap (h1.push (seqObj "list" us.toArray 0)) h1.objs.size us out).get? h1.objs.size = some (seqObj "list" out e) := sortedHeap_at g1
  refine wpAny_pure ⟨_, rfl, h h1 tk _ out.toList ns' e _ kp a1 a2 a3 (Nat.le_refl _) (by rw [Array.toArray_toList]; exact he) (fun b o q1 => ?_) rfl rfl⟩
  have hb : b < h1.objs.size := Heap.lt_size q1
  show (sortedHeap (h1.push (seqObj "list" us.toArray 0)) h1.objs.size us out).get? b = some o
  rw [sortedHeap_old (Nat.ne_of_lt hb) (by rw [size_push']; exact Nat.lt_succ_of_lt hb)]
  exact Heap.get?_push_of_some _ q1
end
section
variable {X : Cx}
def rSortD : List V → Hp → VK → Prop := fun xs H Q => ∃ (d : Addr) (kvs : List (Key × V)) (ks : List Int), xs = [.ref d] ∧ H d = some (.dK kvs) ∧ kvs.map (·.1) = ks.map Sum.inl ∧ ks.length ≤ 63 ∧ ∀ (l : Addr) (ms : List Int), H l = none → ms.Perm ks → ms.Pairwise (· ≤ ·) → Q (.ref l) (upd H l (.lst (ms.map V.int)))
theorem kv_keys {κ : Type} : ∀ {kvs : List (κ × V)} {vs : List (κ × Value)}, KV kvs vs → vs.map (·.1) = kvs.map (·.1)
  | _, _, .nil => rfl
  | _, _, .cons r t => by rw [List.map_cons, List.map_cons, kv_keys t, r.1]
theorem call_sortD (hc : X.calm = true) : CallR X (.builtin "sorted") rSortD := by
  intro pins s σ H xs us Q I r h
  obtain ⟨a, kvs, ks, rfl, ha, hk, hl, q⟩ := h
  obtain ⟨u, rfl, ru⟩ := vals1 r
  cases ru
  obtain ⟨hz, lo, vs, kv, o, es, ep, e, cc⟩ := I.hok a _ ha
  refine sorted_dict (vs := vs) (ep := ep) (I.ok.hd hc) lo ⟨o, es, e, cc⟩ ((kv_keys kv).trans hk) hl fun h1 tk l us ms n s' kp1 hi hp pw hle g kp eg eo => ?_
  have I1 : Inv X pins σ H { s with heap := h1, toks := s.toks } := I.kept kp1
  obtain ⟨h', g', d', t', o'⟩ := s'
  have e1 : o' = s.os := eo
  have e2 : g' = s.gens := eg
  subst e1 e2
  have hn : H l = none := I1.hok.fresh hle
  have e3 := hi.length
  have e4 := hp.length_eq
  have hok := I1.hok.laid (h' := h') (a := l) (o := .lst (ms.map V.int)) kp hle ⟨by rw [List.length_map]; exact Nat.le_trans (show ms.length ≤ 63 by omega) (by decide), us, n, vals_ints hi, g⟩
  refine ⟨.ref l, _, I1.call' (s' := ⟨h', s.gens, d', t', s.os⟩) (ch := []) rfl (Un.laid kp hle hn) hok I1.bare (fun _ z => nomatch z), rfl, q l ms hn hp pw⟩
end
end L2
namespace L2
open PySem PySem.Spec PyProof.Rows
section
variable {X : Cx} {K : PySem.W.Frag} {g : TG} {σ : St} {H : Hp} {a : Addr} {xs : List V} {nt : Nat} {caps : List Nat} {tt : TT} {te tl : TE} {Q : VK}
theorem sl_tupK (h : X.K = K) : SlR X (rSlT K) := h ▸ sl_tup
theorem tComp_t : tComp nt caps (iTup K tl) g tt te σ H Q ↔ tl σ H fun x H1 => ∃ a, x = .ref a ∧ (∃ xs, SqT K H1 a xs) ∧ CompJ (Itt K a) nt caps g tt te σ H1 Q := Iff.rfl
end
end L2
namespace L2
open PySem PySem.Spec PyProof.Rows
section
variable {X : Cx} {pins : List (Addr × Obj)} {σ : St} {H : Hp} {s : Shared} {h' : Heap} {K : PySem.W.Frag}
def Ite (K : PySem.W.Frag) (a : Addr) : It :=
  ⟨fun i H => ∃ xs x, SqL K H a xs ∧ xs[i]? = some x, fun i H v H' => ∃ t, v = .ref t ∧ H t = none ∧ ∀ xs x, SqL K H a xs → xs[i]? = some x → H' = upd H t (.tup [.int (i : Nat), x]), fun i H => ∃ xs, SqL K H a xs ∧ xs.length ≤ i⟩
def iEnum (K : PySem.W.Frag) (ta : TA) : TI := fun σ H R => ta σ H fun vs H1 => ∃ a xs, vs = [.ref a] ∧ SqL K H1 a xs ∧ R (Ite K a) H1
end
section
variable {K : PySem.W.Frag} {g : TG} {σ : St} {H : Hp} {a : Addr} {nt : Nat} {caps : List Nat} {tt : TT} {te : TE} {Q : VK} {ta : TA}
theorem tComp_e : tComp nt caps (iEnum K ta) g tt te σ H Q ↔ ta σ H fun vs H1 => ∃ a xs, vs = [.ref a] ∧ SqL K H1 a xs ∧ CompJ (Ite K a) nt caps g tt te σ H1 Q := Iff.rfl
end
section
variable {g : TG} {tb : TS} {D : Ends} {σ : St} {H : Hp}
def Lsts (H0 H : Hp) (p : Addr) (LL : List (List Nat)) (ps : List Addr) : Prop := H0 p = none ∧ H p = some (.lst (ps.map V.ref)) ∧ ps.length = LL.length ∧ ∀ (j : Nat) (q : Addr) (L : List Nat), ps[j]? = some q → LL[j]? = some L → H0 q = none ∧ H q = some (.lst (nV L))
theorem Lsts.mono {H0 H H' : Hp} {p : Addr} {LL : List (List Nat)} {ps : List Addr} (h : Lsts H0 H p LL ps) (s : Same H H') : Lsts H0 H' p LL ps :=
  ⟨h.1, s _ _ h.2.1, h.2.2.1, fun j q L h1 h2 => ⟨(h.2.2.2 j q L h1 h2).1, s _ _ (h.2.2.2 j q L h1 h2).2⟩⟩
theorem Lsts.back {H0 H1 H : Hp} {p : Addr} {LL : List (List Nat)} {ps : List Addr} (h : Lsts H1 H p LL ps) (s : Same H0 H1) : Lsts H0 H p LL ps :=
  ⟨old_none s h.1, h.2.1, h.2.2.1, fun j q L h1 h2 => ⟨old_none s (h.2.2.2 j q L h1 h2).1, (h.2.2.2 j q L h1 h2).2⟩⟩
theorem Lsts.snoc {H0 H : Hp} {p r : Addr} {LL : List (List Nat)} {ps : List Addr} {L : List Nat} (h : Lsts H0 H p LL ps) (hr : H0 r = none) (hL : H r = some (.lst (nV L))) (hne : ∀ q ∈ ps, q ≠ p) (hrp : r ≠ p) :
    Lsts H0 (upd H p (.lst (ps.map V.ref ++ [.ref r]))) p (LL ++ [L]) (ps ++ [r]) := by
  refine ⟨h.1, by rw [upd_same, List.map_append]; rfl, by rw [List.length_append, List.length_append, h.2.2.1]; rfl, fun j q M h1 h2 => ?_⟩
  have hj : j < ps.length ∨ j = ps.length := by
    have := (List.getElem?_eq_some_iff.mp h1).1
    rw [List.length_append] at this
    simp at this
    omega
  rcases hj with hj | hj
  · rw [List.getElem?_append_left hj] at h1
    rw [List.getElem?_append_left (by rw [← h.2.2.1]; exact hj)] at h2
    have := h.2.2.2 j q M h1 h2
    rw [upd_ne (hne q (List.mem_of_getElem? h1))]
    exact this
  · subst hj
    rw [List.getElem?_append_right (Nat.le_refl _), Nat.sub_self] at h1
    rw [h.2.2.1, List.getElem?_append_right (Nat.le_refl _), Nat.sub_self] at h2
    cases h1
    cases h2
    rw [upd_ne hrp]
    exact ⟨hr, hL⟩
theorem Lsts.at {H0 H : Hp} {p : Addr} {LL : List (List Nat)} {ps : List Addr} (h : Lsts H0 H p LL ps) {j : Nat} (hj : j < ps.length) : ∃ (q : Addr) (L : List Nat), ps[j]? = some q ∧ LL[j]? = some L ∧ L ∈ LL ∧ H q = some (.lst (nV L)) := by
  have e1 := List.getElem?_eq_getElem hj
  have e2 : LL[j]? = some (LL[j]'(by rw [← h.2.2.1]; exact hj)) := List.getElem?_eq_getElem _
  exact ⟨_, _, e1, e2, List.mem_of_getElem? e2, (h.2.2.2 j _ _ e1 e2).2⟩
end
end L2
namespace L2
open PySem PySem.Spec PyProof.Rows
section
variable {K : PySem.W.Frag} {g : TG} {tb : TS} {D : Ends} {σ : L2.St} {H : Hp} {a : Addr} {ta : TA}
theorem tFor_e : tFor (iEnum K ta) g tb D σ H ↔ ta σ H fun vs H1 => ∃ a xs, vs = [.ref a] ∧ SqL K H1 a xs ∧ LoopJ (Ite K a) g tb D σ H1 := Iff.rfl
end
inductive Pap (H : Hp) (fs gs : List Nat) (m : Nat) : Nat → Nat → Nat → Addr → Prop
  | one {n ti to : Nat} {t : Addr} {j b : Nat} (h : H t = some (.tup [.str "one", .int (j : Nat)])) (h1 : fs[j]? = some b) (h2 : Fam.sub b ti) : Pap H fs gs m (n + 1) ti to t
  | other {n ti to : Nat} {t : Addr} {j b : Nat} (h : H t = some (.tup [.str "other", .int (j : Nat)])) (h1 : gs[j]? = some b) (h2 : Fam.sub b to) : Pap H fs gs m (n + 1) ti to t
  | name {n ti to : Nat} {t u v : Addr} {k : Nat} (h : H t = some (.tup [.str "name", .int (k : Nat), .ref u, .ref v])) (hk : k < m) (h1 : ti.testBit k = false) (h2 : to.testBit k = false) (p1 : Pap H fs gs m n (ti ||| 2 ^ k) to u) (p2 : Pap H fs gs m n ti (to ||| 2 ^ k) v) : Pap H fs gs m (n + 1) ti to t
theorem Pap.mono {H H' : Hp} {fs gs : List Nat} {m n ti to : Nat} {t : Addr} (h : Pap H fs gs m n ti to t) (s : Same H H') : Pap H' fs gs m n ti to t := by
  induction h with
  | one h h1 h2 => exact .one (s _ _ h) h1 h2
  | other h h1 h2 => exact .other (s _ _ h) h1 h2
  | name h hk h1 h2 _ _ i1 i2 => exact .name (s _ _ h) hk h1 h2 i1 i2
end L2
namespace L2
open PySem PySem.Spec PyProof.Rows
section
variable {X : Cx}
def rInsert : V → List V → Hp → VK → Prop := fun x vs H Q => ∃ (l : Addr) (xs : List V) (z : Int) (i : Nat) (y : V), x = .ref l ∧ vs = [.int z, y] ∧ z = (i : Nat) ∧ H l = some (.lst xs) ∧ xs.length ≤ 1000 ∧ i ≤ xs.length ∧ Q .non (upd H l (.lst (xs.take i ++ y :: xs.drop i)))
theorem paired_take {xs : List V} {us : List Value} (r : Vals xs us) (i : Nat) : Vals (xs.take i) (us.take i) := by
  induction i generalizing xs us with
  | zero => exact .nil
  | succ i ih =>
    cases r with
    | nil => exact .nil
    | cons h t => exact .cons h (ih t)
theorem paired_drop {xs : List V} {us : List Value} (r : Vals xs us) (i : Nat) : Vals (xs.drop i) (us.drop i) := by
  induction i generalizing xs us with
  | zero => exact r
  | succ i ih =>
    cases r with
    | nil => exact .nil
    | cons h t => exact ih t
theorem mt_insert : MtM X "list.insert" rInsert := by
  intro pins s σ H x vs v us Q I rx rv h
  obtain ⟨l, xs, x, i, y, rfl, rfl, hx, hH, hb, hi, q⟩ := h
  cases rx
  cases rv with
  | cons r0 rr =>
    cases rr with
    | @cons _ u1 _ _ r1 rr =>
      cases rr
      obtain ⟨t, rfl⟩ := r0
      obtain ⟨z, its, n, r, hl, e⟩ := I.lstM hH
      have hf : Builtin.List.listFitsIndex x = true := by
        unfold Builtin.List.listFitsIndex
        rw [Bool.and_eq_true, decide_eq_true_eq, decide_eq_true_eq]
        constructor <;> omega
      have hc0 : ¬ (!Builtin.List.listFitsIndex x) = true := by
        rw [hf]
        exact Bool.false_ne_true
      have hs1 : its.toArray.size ≤ sizeLine := by
        rw [List.size_toArray, ← hl]
        exact z
      have M := AutoSeq1.list_insert_list_int_val_1 l its.toArray n x t u1 hc0 hs1
      refine call_meets F.slot_list_insert ⟨_, e, rfl⟩ F.entry_list_insert (F.args_list_insert_3 _ _ _) M ⟨e, ?_⟩
      refine ⟨.non, _, I.lset (its' := its.take i ++ u1 :: its.drop i) hH e ?_ ((paired_take r i).append (.cons r1 (paired_drop r i))) (small5 (by rw [List.length_append, List.length_cons, List.length_take, List.length_drop]; omega)), rfl, q⟩
      have hk : min i its.length = i := by omega
      have h0 : ¬ (x < 0) := by omega
      have h1 : x.toNat = i := by omega
      simp [h0, h1, hk]
      exact List.take_of_length_le (by rw [List.length_drop]; exact Nat.le_refl _)
end
inductive Tre
  | leaf (o : Bool) (j : Nat)
  | name (k : Nat) (l r : Tre)
def wd : Bool → Str
  | false => "one"
  | true => "other"
inductive Rep (H : Hp) : Tre → Addr → Prop
  | leaf {t : Addr} {o : Bool} {j : Nat} (h : H t = some (.tup [.str (wd o), .int (j : Nat)])) : Rep H (.leaf o j) t
  | name {t u v : Addr} {k : Nat} {l r : Tre} (h : H t = some (.tup [.str "name", .int (k : Nat), .ref u, .ref v])) (h1 : Rep H l u) (h2 : Rep H r v) : Rep H (.name k l r) t
theorem Rep.mono {H H' : Hp} {p : Tre} {t : Addr} (h : Rep H p t) (s : Same H H') : Rep H' p t := by
  induction h with
  | leaf h => exact .leaf (s _ _ h)
  | name h _ _ i1 i2 => exact .name (s _ _ h) i1 i2
def tak (fs : List Nat) (j a : Nat) : Bool := match fs[j]? with
  | some b => decide (Fam.sub b a)
  | none => false
def hgt : Tre → Nat
  | .leaf _ _ => 1
  | .name _ l r => max (hgt l) (hgt r) + 1
end L2
namespace L2
open PySem PySem.Spec PyProof.Rows
section
variable {m : Nat} {o : List Nat}
end
end L2
namespace L2
open PySem PySem.Spec PyProof.Rows
theorem kd_same {H H' : Hp} (s : Same H H') {v : V} {w : String} (h : kdOf H v = some w) : kdOf H' v = some w := by
  cases v with
  | ref a =>
    unfold kdOf at h ⊢
    dsimp only at h ⊢
    split at h
    · rename_i e; rw [s _ _ e]; exact h
    · rename_i e; rw [s _ _ e]; exact h
    · rename_i e; rw [s _ _ e]; exact h
    · rename_i e; rw [s _ _ e]; exact h
    · cases h
  | _ => exact h
inductive Thg (H : Hp) : Nat → V → Prop
  | flat {n : Nat} {v : V} {w : String} (h : kdOf H v = some w) (hw : w ≠ "tuple") : Thg H n v
  | tup {n : Nat} {a : Addr} {xs : List V} (h : H a = some (.tup xs)) (hx : ∀ x ∈ xs, Thg H n x) : Thg H (n + 1) (.ref a)
theorem Thg.mono {H H' : Hp} {n : Nat} {v : V} (h : Thg H n v) (s : Same H H') : Thg H' n v := by
  induction h with
  | flat h hw => exact .flat (kd_same s h) hw
  | tup h _ ih => exact .tup (s _ _ h) ih
theorem Thg.up {H : Hp} {n n' : Nat} {v : V} (h : Thg H n v) (hn : n ≤ n') : Thg H n' v := by
  induction h generalizing n' with
  | flat h hw => exact .flat h hw
  | tup h _ ih =>
    obtain ⟨k, rfl⟩ : ∃ k, n' = k + 1 := ⟨n' - 1, by omega⟩
    exact .tup h fun x hx => ih x hx (by omega)
theorem Thg.kind {H : Hp} {n : Nat} {v : V} (h : Thg H n v) : ∃ w, kdOf H v = some w := by
  cases h with
  | flat h _ => exact ⟨_, h⟩
  | tup h _ => exact ⟨_, kd_tup h⟩
theorem Thg.str {H : Hp} {n : Nat} {w : Str} : Thg H n (.str w) := .flat (w := "str") rfl (by decide)
theorem Thg.int {H : Hp} {n : Nat} {i : Int} : Thg H n (.int i) := .flat (w := "int") rfl (by decide)
theorem Thg.bl {H : Hp} {n : Nat} {b : Bool} : Thg H n (.bl b) := .flat (w := "bool") rfl (by decide)
theorem Thg.non {H : Hp} {n : Nat} : Thg H n .non := .flat (w := "NoneType") rfl (by decide)
theorem Thg.lst {H : Hp} {n : Nat} {a : Addr} {xs : List V} (h : H a = some (.lst xs)) : Thg H n (.ref a) := .flat (kd_lst h) (by decide)
theorem Thg.dct {H : Hp} {n : Nat} {a : Addr} {kvs : List (Key × V)} (h : H a = some (.dK kvs)) : Thg H n (.ref a) := .flat (kd_dK h) (by decide)
theorem Rep.thg {H : Hp} {p : Tre} {t : Addr} (h : Rep H p t) : Thg H (hgt p) (.ref t) := by
  induction h with
  | leaf h =>
    refine .tup h fun x hx => ?_
    simp only [List.mem_cons, List.not_mem_nil, or_false] at hx
    rcases hx with rfl | rfl
    · exact .str
    · exact .int
  | @name t u v k l r h _ _ i1 i2 =>
    refine .tup h fun x hx => ?_
    simp only [List.mem_cons, List.not_mem_nil, or_false] at hx
    rcases hx with rfl | rfl | rfl | rfl
    · exact .str
    · exact .int
    · exact i1.up (Nat.le_max_left _ _)
    · exact i2.up (Nat.le_max_right _ _)
def isI : V → Bool
  | .int _ => true
  | _ => false
def isS : V → Bool
  | .str _ => true
  | _ => false
theorem kd_int {H : Hp} {v : V} {w : String} (h : kdOf H v = some w) : (subT w "int" && !subT w "bool") = isI v := by
  cases v with
  | ref a =>
    unfold kdOf at h
    dsimp only at h
    split at h <;> cases h <;> rfl
  | non => cases h; rfl
  | bl b => cases h; rfl
  | int i => cases h; rfl
  | str z => cases h; rfl
  | _ => cases h
theorem kd_str {H : Hp} {v : V} {w : String} (h : kdOf H v = some w) : subT w "str" = isS v := by
  cases v with
  | ref a =>
    unfold kdOf at h
    dsimp only at h
    split at h <;> cases h <;> rfl
  | non => cases h; rfl
  | bl b => cases h; rfl
  | int i => cases h; rfl
  | str z => cases h; rfl
  | _ => cases h
theorem kd_no {w : String} (hw : w ≠ "tuple") : subT w "tuple" = false := by
  unfold subT
  simp [hw]
theorem kd_tupE {H : Hp} {v : V} {w : String} (h : kdOf H v = some w) (hw : w ≠ "tuple") {a : Addr} (e : v = .ref a) {xs : List V} : H a ≠ some (.tup xs) := fun z => by
  subst e
  rw [kd_tup z] at h
  cases h
  exact hw rfl
def tkI (fs : List Nat) (k : Int) (a : Nat) : Bool := decide (0 ≤ k) && tak fs k.toNat a
def frI (m : Nat) (k : Int) (a : Nat) : Bool := decide (0 ≤ k) && (decide (k < (m : Int)) && !a.testBit k.toNat)
def bgn (H : Hp) (v : V) : Bool := match v with
  | .ref a => match H a with
    | some (.tup xs) => match xs with
      | x :: y :: _ => isS x && isI y
      | _ => false
    | _ => false
  | _ => false
def gdT (H : Hp) (m : Nat) (fs gs : List Nat) : Nat → V → Nat → Nat → Bool
  | 0, _, _, _ => false
  | n + 1, v, ti, to => match v with
    | .ref a => match H a with
      | some (.tup xs) => match xs with
        | [.str w, .int k] => if w = "one" then tkI fs k ti else if w = "other" then tkI gs k to else false
        | [.str w, .int k, x, y] => (decide (w = "name") && frI m k (ti ||| to)) && (gdT H m fs gs n x (ti ||| 2 ^ k.toNat) to && gdT H m fs gs n y ti (to ||| 2 ^ k.toNat))
        | _ => false
      | _ => false
    | _ => false
theorem bgn_flat {H : Hp} {v : V} {w : String} (h : kdOf H v = some w) (hw : w ≠ "tuple") : bgn H v = false := by
  cases v with
  | ref a =>
    unfold bgn
    dsimp only
    split
    · rename_i e; exact absurd e (kd_tupE h hw rfl)
    · rfl
  | _ => rfl
theorem gdT_flat {H : Hp} {m : Nat} {fs gs : List Nat} {n : Nat} {v : V} {w : String} {ti to : Nat} (h : kdOf H v = some w) (hw : w ≠ "tuple") : gdT H m fs gs n v ti to = false := by
  cases n with
  | zero => rfl
  | succ n =>
    cases v with
    | ref a =>
      unfold gdT
      dsimp only
      split
      · rename_i e; exact absurd e (kd_tupE h hw rfl)
      · rfl
    | _ => rfl
def bgnL : List V → Bool
  | x :: y :: _ => isS x && isI y
  | _ => false
theorem bgn_tup {H : Hp} {a : Addr} {xs : List V} (h : H a = some (.tup xs)) : bgn H (.ref a) = bgnL xs := by
  unfold bgn bgnL
  dsimp only
  rw [h]
def gdL (H : Hp) (m : Nat) (fs gs : List Nat) (n : Nat) (ti to : Nat) : List V → Bool
  | [.str w, .int k] => if w = "one" then tkI fs k ti else if w = "other" then tkI gs k to else false
  | [.str w, .int k, x, y] => (decide (w = "name") && frI m k (ti ||| to)) && (gdT H m fs gs n x (ti ||| 2 ^ k.toNat) to && gdT H m fs gs n y ti (to ||| 2 ^ k.toNat))
  | _ => false
theorem gdT_tup {H : Hp} {m : Nat} {fs gs : List Nat} {n : Nat} {a : Addr} {xs : List V} {ti to : Nat} (h : H a = some (.tup xs)) : gdT H m fs gs (n + 1) (.ref a) ti to = gdL H m fs gs n ti to xs := by
  rw [gdT, h]
  rfl
theorem isS_eq {v : V} (h : isS v = true) : ∃ w, v = .str w := by
  cases v with
  | str w => exact ⟨w, rfl⟩
  | _ => cases h
theorem isI_eq {v : V} (h : isI v = true) : ∃ i, v = .int i := by
  cases v with
  | int i => exact ⟨i, rfl⟩
  | _ => cases h
theorem gdL_not {H : Hp} {m : Nat} {fs gs : List Nat} {n : Nat} {xs : List V} {ti to : Nat} (h : bgnL xs = false) : gdL H m fs gs n ti to xs = false := by
  unfold gdL
  split
  · cases h
  · cases h
  · rfl
theorem gdT_not {H : Hp} {m : Nat} {fs gs : List Nat} {n : Nat} {v : V} {ti to : Nat} (h : bgn H v = false) : gdT H m fs gs n v ti to = false := by
  cases n with
  | zero => rfl
  | succ n =>
    cases v with
    | ref a =>
      cases e : H a with
      | none => rw [gdT, e]
      | some o =>
        cases o with
        | tup xs =>
          rw [bgn_tup e] at h
          rw [gdT_tup e]
          exact gdL_not h
        | _ => rw [gdT, e]
    | _ => rfl
theorem cat_any {K : PySem.W.Frag} {H : Hp} {a b : Addr} {xs ys : List V} {Q : VK} (ha : H a = some (.tup xs)) (hb : H b = some (.tup ys)) (hx : xs ≠ []) (hl : xs.length + ys.length ≤ 100) (q : ∀ (p : Addr) (H' : Hp), Same H H' → H' p = some (.tup (xs ++ ys)) → Q (.ref p) H') : rCatT K (.ref a) (.ref b) H Q := by
  refine ⟨a, b, xs, ys, rfl, rfl, SqT.of ha, SqT.of hb, hx, small5 (by omega), fun z => ?_, fun z p hp => ?_⟩
  · subst z
    rw [List.append_nil] at q
    exact q a H (Same.refl _) ha
  · exact q p _ (Same.new hp) upd_same
theorem th0 {H : Hp} {n : Nat} : ∀ x ∈ ([] : List V), Thg H n x := fun x h => by cases h
theorem thc {H : Hp} {n : Nat} {a : V} {l : List V} (h : Thg H n a) (t : ∀ x ∈ l, Thg H n x) : ∀ x ∈ a :: l, Thg H n x := fun x hx => by
  rcases List.mem_cons.mp hx with rfl | hx
  · exact h
  · exact t x hx
theorem tha {H : Hp} {n : Nat} {k l : List V} (h : ∀ x ∈ k, Thg H n x) (t : ∀ x ∈ l, Thg H n x) : ∀ x ∈ k ++ l, Thg H n x := fun x hx => by
  rcases List.mem_append.mp hx with hx | hx
  · exact h x hx
  · exact t x hx
theorem thm {H H' : Hp} {n : Nat} {l : List V} (t : ∀ x ∈ l, Thg H n x) (s : Same H H') : ∀ x ∈ l, Thg H' n x := fun x hx => (t x hx).mono s
def SamX (pp : Addr) (H H' : Hp) : Prop := ∀ b o, b ≠ pp → H b = some o → H' b = some o
theorem SamX.of {pp : Addr} {H H' : Hp} (s : Same H H') : SamX pp H H' := fun b o _ h => s b o h
theorem SamX.trans {pp : Addr} {H H' H'' : Hp} (s : SamX pp H H') (t : SamX pp H' H'') : SamX pp H H'' := fun b o n h => t b o n (s b o n h)
theorem SamX.upd {pp : Addr} {H : Hp} {o : HO} : SamX pp H (upd H pp o) := fun b u n h => by rw [upd_ne n]; exact h
theorem SamX.seq {K : PySem.W.Frag} {pp : Addr} {H H' : Hp} {a : Addr} {xs : List V} (e : SamX pp H H') (n : a ≠ pp) (h : SqL K H a xs) : SqL K H' a xs := by
  rcases h with (h | ⟨o, h⟩) | h
  · exact .inl (.inl (e _ _ n h))
  · exact .inl (.inr ⟨o, e _ _ n h⟩)
  · exact .inr h
theorem kd_sameX {pp : Addr} {H H' : Hp} {xs ys : List V} (hp : H pp = some (.lst xs)) (hp' : H' pp = some (.lst ys)) (s : SamX pp H H') {v : V} {w : String} (h : kdOf H v = some w) : kdOf H' v = some w := by
  by_cases c : v = .ref pp
  · subst c
    rw [kd_lst hp] at h
    rw [kd_lst hp']
    exact h
  · cases v with
    | ref a =>
      have ne : a ≠ pp := fun z => c (by rw [z])
      unfold kdOf at h ⊢
      dsimp only at h ⊢
      split at h
      · rename_i e; rw [s _ _ ne e]; exact h
      · rename_i e; rw [s _ _ ne e]; exact h
      · rename_i e; rw [s _ _ ne e]; exact h
      · rename_i e; rw [s _ _ ne e]; exact h
      · cases h
    | _ => exact h
theorem Thg.monoX {pp : Addr} {H H' : Hp} {n : Nat} {v : V} {xs ys : List V} (h : Thg H n v) (hp : H pp = some (.lst xs)) (hp' : H' pp = some (.lst ys)) (s : SamX pp H H') : Thg H' n v := by
  induction h with
  | flat h hw => exact .flat (kd_sameX hp hp' s h) hw
  | tup h _ ih => exact .tup (s _ _ (fun z => by rw [z, hp] at h; cases h) h) ih
theorem SqL.keepX {K : PySem.W.Frag} {pp : Addr} {H H' : Hp} {a : Addr} {xs : List V} (h : SqL K H a xs) (n : H pp = none) (e : SamX pp H H') : SqL K H' a xs := by
  rcases h with (h | ⟨o, h⟩) | h
  · exact .inl (.inl (e _ _ (fun z => by rw [z, n] at h; cases h) h))
  · exact .inl (.inr ⟨o, e _ _ (fun z => by rw [z, n] at h; cases h) h⟩)
  · exact .inr h
theorem SamX.same {pp : Addr} {H H' : Hp} (s : SamX pp H H') (n : H pp = none) : Same H H' := fun b o h => s b o (fun z => by rw [z, n] at h; cases h) h
def bnd (c : Nat) : Tre → Prop
  | .leaf _ j => j ≤ c
  | .name k l r => k ≤ c ∧ bnd c l ∧ bnd c r
end L2
open L2 in
local macro_rules | `(tactic| walk_at "rd") => `(tactic| simp only [tSeq_asg, tSeq_drop, tSeq_for, tSeq_while, tSeq_ifr, tIfS_ap, ite_true, ite_false, tNext, tRet, tRetN, tDrop, tAsg, gName, tVar, tC, tOp, tUn, rU, tTest, tB, tAnd, tOr, tNot, tAndV, tOrV, tNotV, tCons, tNil, tCall, tCB, tTup, tLst, tChain, tBM, tBM0, tDNewK, tDisp, tPairs, rIsinst, tFor_l, tFor_r1, tFor_r2, tFor_rv, tFor_e, tRev, tYes, sDPut, tDGet, gTup, gCons, gNil, tComp_l, tComp_r1, tComp_r2, tSl, tNoPart, tPart, gSub, tInts, tPar, tComp_t, tComp_e, cx_K, tyV_upd,
  rEqX_i, rNeX_i, rEqX_b, rNeX_b, rEqX_s, rNeX_s, rCatS_i, rEqL_i, rEqL_b, rEqL_s, rEqL_n, rNeL_i, rNeL_b, rNeL_s, rNeL_n, rEq_r, rNe_r, rEq_i, rNe_i, rEq_b, rNe_b, rEq_s, rNe_s, rI0_r, rI0_i, rI_i, rApp_upd,
  capSt, List.replicate_succ, List.replicate_zero, List.map_cons, List.map_nil, Option.join_some, rIn, List.append_nil, List.cons_append, List.nil_append, List.getElem?_cons_zero, List.getElem?_cons_succ, List.set_cons_zero, List.set_cons_succ, Option.some.injEq, List.cons.injEq, V.int.injEq, V.bl.injEq, V.ref.injEq, V.ty.injEq, V.str.injEq, and_true, true_and, exists_eq_left, exists_eq_left', exists_and_left, exists_eq', exists_eq, reduceCtorEq, false_and, exists_false, or_false, false_or, decide_eq_true_eq, Bool.not_eq_true', Bool.not_eq_eq_eq_not, Bool.not_true, decide_eq_false_iff_not])
namespace Zk16
open PySem L2 PyProof.Rows
def top (i : Nat) : Stmt := PySem.Challenge.pw_allhits_k16_papers_looked_at.main.body.getD i (.Pass ⟨0, 0, 0, 0⟩)
structure Txt (mg : Str → Option Value) : Prop where
  n_isinstance : mg "isinstance" = none
  n_int : mg "int" = none
  n_bool : mg "bool" = none
  n_tuple : mg "tuple" = none
  n_str : mg "str" = none
  n_len : mg "len" = none
  n_range : mg "range" = none
  n_sorted : mg "sorted" = none
  n_list : mg "list" = none
section
variable {P : Program} {w : World} {K : PySem.W.Frag} {mg : Str → Option Value} {base : Heap}
abbrev s_is_whole : Stmt := top 1
theorem sc_is_whole : FnScope ["thing"] ["thing"] (defScope s_is_whole) := ⟨rfl, rfl, rfl, by decide +kernel, rfl, by decide +kernel, by decide +kernel⟩
def spWhole : Sp := sp1 fun x H Q => ∃ w, kdOf H x = some w ∧ Q (.bl (isI x)) H
set_option maxHeartbeats 4000000 in
theorem ok_is_whole {f : Addr} {fd : FuncData} (F : Fun K "is_whole" "is_whole" s_is_whole f fd) (T : Txt mg)  : FnOk P w K mg base CX0 1 f fd ["thing"] spWhole := by
  have sc := sc_is_whole
  refine F.ok sc_is_whole (fun vs H Q E h => ?_) (fun cdv A outer s H vs Q E hr h => ?_)
  · obtain ⟨_, rfl, _⟩ := h
    rfl
  · obtain ⟨x0, rfl, h⟩ := h
    refine ⟨_, (pss_one (ps_ret (pe_and (pe_callB call_isinst (by rfl) T.n_isinstance PyProof.Rows.boot_isinstance (pa_cons (pv 0) (pa_cons (pe_bltn (v := .ty "int") (by rfl) T.n_int PyProof.Rows.boot_int rfl) pa_nil))) (pe_one (pe_not (pe_callB call_isinst (by rfl) T.n_isinstance PyProof.Rows.boot_isinstance (pa_cons (pv 0) (pa_cons (pe_bltn (v := .ty "bool") (by rfl) T.n_bool PyProof.Rows.boot_bool rfl) pa_nil)))))))), ?_⟩
    refine rdg (σ' := [some x0]) rfl ?_
    obtain ⟨w, hw, q⟩ := h
    walk_at "rd"
    rw [← kd_int hw] at q
    refine ⟨_, "int", ⟨rfl, rfl⟩, w, hw, by decide, ?_⟩
    cases h1 : subT w "int" with
    | false =>
      rw [h1] at q
      exact iteF q
    | true =>
      rw [h1] at q
      exact iteT ⟨_, "bool", ⟨rfl, rfl⟩, w, hw, by decide, q⟩
abbrev s_holds : Stmt := top 2
theorem sc_holds : FnScope ["one", "other"] ["one", "other"] (defScope s_holds) := ⟨rfl, rfl, rfl, by decide +kernel, rfl, by decide +kernel, by decide +kernel⟩
def spHolds : Sp := sp2 fun x y H Q => ∃ a b : Nat, x = .int a ∧ y = .int b ∧ Q (.bl (decide (Fam.sub b a))) H
set_option maxHeartbeats 4000000 in
theorem ok_holds {f : Addr} {fd : FuncData} (F : Fun K "holds" "holds" s_holds f fd) (T : Txt mg)  : FnOk P w K mg base CX0 1 f fd ["one", "other"] spHolds := by
  have sc := sc_holds
  refine F.ok sc_holds (fun vs H Q E h => ?_) (fun cdv A outer s H vs Q E hr h => ?_)
  · obtain ⟨_, _, rfl, _⟩ := h
    rfl
  · obtain ⟨x0, x1, rfl, h⟩ := h
    refine ⟨_, (pss_one (ps_ret (pe_cmpR (op_eqK (K := K) rfl hr.units0) (pe_op op_and (pv 0) (pv 1)) (pv 1) (nomark _)))), ?_⟩
    refine rdg (σ' := [some x0, some x1]) rfl ?_
    obtain ⟨a, b, rfl, rfl, q⟩ := h
    walk_at "rd"
    rw [and_nat, show decide (((a &&& b : Nat) : Int) = (b : Int)) = decide (Fam.sub b a) from decide_eq_decide.mpr (by unfold Fam.sub; omega)]
    exact q
abbrev s_begins_as_a_paper : Stmt := top 6
theorem sc_begins_as_a_paper : FnScope ["thing"] ["thing"] (defScope s_begins_as_a_paper) := ⟨rfl, rfl, rfl, by decide +kernel, rfl, by decide +kernel, by decide +kernel⟩
def spBegins (K : PySem.W.Frag) : Sp := sp1 fun x H Q => ∃ (H0 : Hp) (n : Nat), Same H0 H ∧ Thg H0 n x ∧ Q (.bl (bgn H0 x)) H
set_option maxHeartbeats 4000000 in
theorem ok_begins_as_a_paper {f : Addr} {fd : FuncData} (F : Fun K "begins_as_a_paper" "begins_as_a_paper" s_begins_as_a_paper f fd) (T : Txt mg) {f_is_whole : Addr} {fd_is_whole : FuncData} (C_is_whole : Cal P w K mg base "is_whole" 1 ["thing"] spWhole f_is_whole fd_is_whole) : FnOk P w K mg base CX0 2 f fd ["thing"] (spBegins K) := by
  have sc := sc_begins_as_a_paper
  refine F.ok sc_begins_as_a_paper (fun vs H Q E h => ?_) (fun cdv A outer s H vs Q E hr h => ?_)
  · obtain ⟨_, rfl, _⟩ := h
    rfl
  · obtain ⟨x0, rfl, h⟩ := h
    refine ⟨_, (pss_one (ps_ret (pe_and (pe_callB call_isinst (by rfl) T.n_isinstance PyProof.Rows.boot_isinstance (pa_cons (pv 0) (pa_cons (pe_bltn (v := .ty "tuple") (by rfl) T.n_tuple PyProof.Rows.boot_tuple rfl) pa_nil))) (pe_and (pe_cmpR op_ge (pe_callB (call_lenK (K := K) rfl) (by rfl) T.n_len PySem.boot_len (pa_cons (pv 0) pa_nil)) pe_int (nomark _)) (pe_and (pe_callB call_isinst (by rfl) T.n_isinstance PyProof.Rows.boot_isinstance (pa_cons (pe_ix (ix_K (K := K) rfl) (pv 0) pe_int (fun _ _ => rfl)) (pa_cons (pe_bltn (v := .ty "str") (by rfl) T.n_str PyProof.Rows.boot_str rfl) pa_nil))) (pe_one (pe_cal C_is_whole hr (by decide) (by rfl) (pa_cons (pe_ix (ix_K (K := K) rfl) (pv 0) pe_int (fun _ _ => rfl)) pa_nil)))))))), ?_⟩
    refine rdg (σ' := [some x0]) rfl ?_
    obtain ⟨H0, n, s0, hT, q⟩ := h
    walk_at "rd"
    cases hT with
    | flat h hw =>
      rw [bgn_flat h hw] at q
      refine ⟨_, "tuple", ⟨rfl, rfl⟩, _, kd_same s0 h, by decide, ?_⟩
      rw [kd_no hw]
      exact iteF q
    | @tup n a xs at0 hx =>
      have at1 := s0 _ _ at0
      rw [bgn_tup at0] at q
      refine ⟨_, "tuple", ⟨rfl, rfl⟩, "tuple", kd_tup at1, by decide, iteT ?_⟩
      (try walk_at "rd")
      refine ⟨_, .inr (SqT.of at1), ?_⟩
      match xs, at0, at1, hx, q with
      | [], at0, at1, hx, q =>
        rw [if_neg (by simp)]
        exact q
      | [x], at0, at1, hx, q =>
        rw [if_neg (by simp)]
        exact q
      | x :: y :: r, at0, at1, hx, q =>
        rw [if_pos (by simp; omega)]
        obtain ⟨w0, k0⟩ := ((hx x (by simp)).mono s0).kind
        obtain ⟨w1, k1⟩ := ((hx y (by simp)).mono s0).kind
        refine ixX_t (SqT.of at1) (show atI (x :: y :: r) ((0 : Nat) : Int) = some x from atI_nat rfl) ⟨_, "str", ⟨rfl, rfl⟩, w0, k0, by decide, ?_⟩
        rw [kd_str k0]
        have q : Q (.bl (isS x && isI y)) H := q
        cases h0 : isS x with
        | false =>
          rw [h0] at q
          exact iteF q
        | true =>
          rw [h0] at q
          exact iteT (ixX_t (SqT.of at1) (show atI (x :: y :: r) ((1 : Nat) : Int) = some y from atI_nat rfl) ⟨_, rfl, w1, k1, q⟩)
abbrev s_is_taken : Stmt := top 7
theorem sc_is_taken : FnScope ["family", "k", "taken"] ["family", "k", "taken"] (defScope s_is_taken) := ⟨rfl, rfl, rfl, by decide +kernel, rfl, by decide +kernel, by decide +kernel⟩
def spTk (K : PySem.W.Frag) : Sp := sp3 fun x y z H Q => ∃ (p : Addr) (fs : List Nat) (k : Int) (a : Nat), x = .ref p ∧ SqL K H p (nV fs) ∧ y = .int k ∧ z = .int a ∧ Q (.bl (tkI fs k a)) H
set_option maxHeartbeats 4000000 in
theorem ok_is_taken {f : Addr} {fd : FuncData} (F : Fun K "is_taken" "is_taken" s_is_taken f fd) (T : Txt mg) {f_holds : Addr} {fd_holds : FuncData} (C_holds : Cal P w K mg base "holds" 1 ["one", "other"] spHolds f_holds fd_holds) : FnOk P w K mg base CX0 2 f fd ["family", "k", "taken"] (spTk K) := by
  have sc := sc_is_taken
  refine F.ok sc_is_taken (fun vs H Q E h => ?_) (fun cdv A outer s H vs Q E hr h => ?_)
  · obtain ⟨_, _, _, rfl, _⟩ := h
    rfl
  · obtain ⟨x0, x1, x2, rfl, h⟩ := h
    refine ⟨_, (pss_one (ps_ret (pe_and (pe_chain op_le op_lt pe_int (pv 1) (pe_callB (call_lenK (K := K) rfl) (by rfl) T.n_len PySem.boot_len (pa_cons (pv 0) pa_nil))) (pe_one (pe_cal C_holds hr (by decide) (by rfl) (pa_cons (pv 2) (pa_cons (pe_ix (ix_K (K := K) rfl) (pv 0) (pv 1) (fun _ _ => rfl)) pa_nil))))))), ?_⟩
    refine rdg (σ' := [some x0, some x1, some x2]) rfl ?_
    obtain ⟨p, fs, k, a, rfl, hq, rfl, rfl, q⟩ := h
    walk_at "rd"
    by_cases c0 : 0 ≤ k
    · obtain ⟨j, rfl⟩ := Int.eq_ofNat_of_zero_le c0
      have eq : tkI fs (j : Nat) a = tak fs j a := by unfold tkI; simp
      rw [eq] at q
      rw [if_pos (by omega)]
      refine ⟨_, .inl hq, ?_⟩
      rw [nV_len]
      by_cases c : j < fs.length
      · rw [if_pos (by omega)]
        have e := List.getElem?_eq_getElem c
        refine ixX_l hq (atI_n e) ⟨_, _, rfl, a, fs[j], rfl, rfl, ?_⟩
        have : tak fs j a = decide (Fam.sub fs[j] a) := by unfold tak; rw [e]
        rw [this] at q
        exact q
      · rw [if_neg (by omega)]
        have : tak fs j a = false := by unfold tak; rw [List.getElem?_eq_none (by omega)]
        rw [this] at q
        exact q
    · have eq : tkI fs k a = false := by unfold tkI; simp [c0]
      rw [eq] at q
      rw [if_neg c0]
      exact q
abbrev s_is_free : Stmt := top 8
theorem sc_is_free : FnScope ["many", "k", "taken"] ["many", "k", "taken"] (defScope s_is_free) := ⟨rfl, rfl, rfl, by decide +kernel, rfl, by decide +kernel, by decide +kernel⟩
def spFree : Sp := sp3 fun x y z H Q => ∃ (m : Nat) (k : Int) (a : Nat), x = .int (m : Nat) ∧ y = .int k ∧ z = .int (a : Nat) ∧ Q (.bl (frI m k a)) H
set_option maxHeartbeats 4000000 in
theorem ok_is_free {f : Addr} {fd : FuncData} (F : Fun K "is_free" "is_free" s_is_free f fd) (T : Txt mg)  : FnOk P w K mg base CX0 1 f fd ["many", "k", "taken"] spFree := by
  have sc := sc_is_free
  refine F.ok sc_is_free (fun vs H Q E h => ?_) (fun cdv A outer s H vs Q E hr h => ?_)
  · obtain ⟨_, _, _, rfl, _⟩ := h
    rfl
  · obtain ⟨x0, x1, x2, rfl, h⟩ := h
    refine ⟨_, (pss_one (ps_ret (pe_and (pe_chain op_le op_lt pe_int (pv 1) (pv 0)) (pe_one (pe_cmpR (op_eqK (K := K) rfl hr.units0) (pe_op op_and (pe_op op_shr (pv 2) (pv 1)) pe_int) pe_int (nomark _)))))), ?_⟩
    refine rdg (σ' := [some x0, some x1, some x2]) rfl ?_
    obtain ⟨m, k, a, rfl, rfl, rfl, q⟩ := h
    walk_at "rd"
    by_cases c0 : 0 ≤ k
    · obtain ⟨j, rfl⟩ := Int.eq_ofNat_of_zero_le c0
      have eq : frI m (j : Nat) a = (decide (j < m) && !a.testBit j) := by unfold frI; simp
      rw [eq] at q
      rw [if_pos (by omega)]
      by_cases c : j < m
      · rw [if_pos (by omega), shr_nil]
        rw [decide_eq_true c, Bool.true_and] at q
        exact ⟨by omega, q⟩
      · rw [if_neg (by omega)]
        rw [decide_eq_false c, Bool.false_and] at q
        exact q
    · have eq : frI m k a = false := by unfold frI; simp [c0]
      rw [eq] at q
      rw [if_neg c0]
      exact q
abbrev s_is_good_with : Stmt := top 5
theorem sc_is_good_with : FnScope ["many", "one", "other", "paper", "taken_in", "taken_out", "word", "k"] ["many", "one", "other", "paper", "taken_in", "taken_out"] (defScope s_is_good_with) := ⟨rfl, rfl, rfl, by decide +kernel, rfl, by decide +kernel, by decide +kernel⟩
theorem eqS {K : PySem.W.Frag} {z z' : Str} {H : Hp} {Q : VK} (c : Bool) (h : decide (z = z') = c) (q : Q (.bl c) H) : rEqX K (.str z) (.str z') H Q := rEqX_s.mpr (h ▸ q)
theorem neS {K : PySem.W.Frag} {z z' : Str} {H : Hp} {Q : VK} (c : Bool) (h : (!decide (z = z')) = c) (q : Q (.bl c) H) : rNeX K (.str z) (.str z') H Q := rNeX_s.mpr (h ▸ q)
theorem tSeq_ifb {c : TT} {t u : TS} {D : Ends} {σ : L2.St} {H : Hp} : tSeq (tIfS c t tNext) u D σ H ↔ c σ H fun b H1 => if b = true then t { D with nx := u D } σ H1 else u D σ H1 := Iff.rfl
def spGW (K : PySem.W.Frag) : Nat → Sp
  | 0 => fun vs H Q _ => ∃ x1 x2 x3 x4 x5 x6, vs = [x1, x2, x3, x4, x5, x6] ∧ False
  | n + 1 => fun vs H Q _ => ∃ x1 x2 x3 x4 x5 x6, vs = [x1, x2, x3, x4, x5, x6] ∧ ∃ (m : Nat) (p1 p2 : Addr) (fs gs : List Nat) (v : V) (ti to : Nat) (H0 : Hp), x1 = .int (m : Nat) ∧ m ≤ 8 ∧ x2 = .ref p1 ∧ SqL K H p1 (nV fs) ∧ x3 = .ref p2 ∧ SqL K H p2 (nV gs) ∧ x4 = v ∧ Same H0 H ∧ Thg H0 n v ∧ x5 = .int (ti : Nat) ∧ x6 = .int (to : Nat) ∧ Q (.bl (gdT H0 m fs gs n v ti to)) H
set_option maxHeartbeats 4000000 in
theorem ok_is_good_with {f : Addr} {fd : FuncData} (F : Fun K "is_good_with" "is_good_with" s_is_good_with f fd) (T : Txt mg) {f_begins_as_a_paper : Addr} {fd_begins_as_a_paper : FuncData} (C_begins_as_a_paper : Cal P w K mg base "begins_as_a_paper" 2 ["thing"] (spBegins K) f_begins_as_a_paper fd_begins_as_a_paper) {f_is_taken : Addr} {fd_is_taken : FuncData} (C_is_taken : Cal P w K mg base "is_taken" 2 ["family", "k", "taken"] (spTk K) f_is_taken fd_is_taken) {f_is_free : Addr} {fd_is_free : FuncData} (C_is_free : Cal P w K mg base "is_free" 1 ["many", "k", "taken"] spFree f_is_free fd_is_free) (n : Nat) (C_is_good_with : Cal P w K mg base "is_good_with" (3 + n) ["many", "one", "other", "paper", "taken_in", "taken_out"] (spGW K n) f fd) : FnOk P w K mg base CX0 (3 + n + 1) f fd ["many", "one", "other", "paper", "taken_in", "taken_out"] (spGW K (n + 1)) := by
  have sc := sc_is_good_with
  refine F.ok sc_is_good_with (fun vs H Q E h => ?_) (fun cdv A outer s H vs Q E hr h => ?_)
  · obtain ⟨_, _, _, _, _, _, rfl, _⟩ := h
    rfl
  · obtain ⟨x0, x1, x2, x3, x4, x5, rfl, h⟩ := h
    refine ⟨_, (pss_cons (ps_if (pt_not (pt_val (pe_cal C_begins_as_a_paper hr (by omega) (by rfl) (pa_cons (pv 3) pa_nil)))) (pss_one (ps_ret pe_bl)) pss_nil)
      (pss_cons (ps_set (i := 6) sc.nd rfl (Or.inl rfl) (pe_ix (ix_K (K := K) rfl) (pv 3) pe_int (fun _ _ => rfl)))
      (pss_cons (ps_set (i := 7) sc.nd rfl (Or.inl rfl) (pe_ix (ix_K (K := K) rfl) (pv 3) pe_int (fun _ _ => rfl)))
      (pss_cons (ps_if (PW.pt (pw_and (pt_cmpR (op_eqK (K := K) rfl hr.units0) (pe_callB (call_lenK (K := K) rfl) (by rfl) T.n_len PySem.boot_len (pa_cons (pv 3) pa_nil)) pe_int (nomark _)) (pw_and1 (pt_cmpR (op_eqK (K := K) rfl hr.units0) (pv 6) pe_str (nomark _))))) (pss_one (ps_ret (pe_cal C_is_taken hr (by omega) (by rfl) (pa_cons (pv 1) (pa_cons (pv 7) (pa_cons (pv 4) pa_nil)))))) pss_nil)
      (pss_cons (ps_if (PW.pt (pw_and (pt_cmpR (op_eqK (K := K) rfl hr.units0) (pe_callB (call_lenK (K := K) rfl) (by rfl) T.n_len PySem.boot_len (pa_cons (pv 3) pa_nil)) pe_int (nomark _)) (pw_and1 (pt_cmpR (op_eqK (K := K) rfl hr.units0) (pv 6) pe_str (nomark _))))) (pss_one (ps_ret (pe_cal C_is_taken hr (by omega) (by rfl) (pa_cons (pv 2) (pa_cons (pv 7) (pa_cons (pv 5) pa_nil)))))) pss_nil)
      (pss_cons (ps_if (PW.pt (pw_and (pt_cmpR (op_eqK (K := K) rfl hr.units0) (pe_callB (call_lenK (K := K) rfl) (by rfl) T.n_len PySem.boot_len (pa_cons (pv 3) pa_nil)) pe_int (nomark _)) (pw_and (pt_cmpR (op_eqK (K := K) rfl hr.units0) (pv 6) pe_str (nomark _)) (pw_and1 (pt_val (pe_cal C_is_free hr (by omega) (by rfl) (pa_cons (pv 0) (pa_cons (pv 7) (pa_cons (pe_op op_or (pv 4) (pv 5)) pa_nil))))))))) (pss_one (ps_ret (pe_and (pe_cal C_is_good_with hr (by omega) (by rfl) (pa_consN (pv 0) (pa_consN (pv 1) (pa_consN (pv 2) (pa_cons (pe_ix (ix_K (K := K) rfl) (pv 3) pe_int (fun _ _ => rfl)) (pa_cons (pe_op op_or (pv 4) (pe_op op_shl pe_int (pv 7))) (pa_consN (pv 5) pa_nil))))))) (pe_one (pe_cal C_is_good_with hr (by omega) (by rfl) (pa_consN (pv 0) (pa_consN (pv 1) (pa_consN (pv 2) (pa_cons (pe_ix (ix_K (K := K) rfl) (pv 3) pe_int (fun _ _ => rfl)) (pa_consN (pv 4) (pa_cons (pe_op op_or (pv 5) (pe_op op_shl pe_int (pv 7))) pa_nil))))))))))) pss_nil)
      (pss_one (ps_ret pe_bl)))))))), ?_⟩
    refine rdg (σ' := [some x0, some x1, some x2, some x3, some x4, some x5, none, none]) rfl ?_
    obtain ⟨m, p1, p2, fs, gs, v, ti, to, H0, rfl, hm, rfl, f1, rfl, f2, rfl, s0, hT, rfl, rfl, q⟩ := h
    walk_at "rd"
    refine ⟨_, rfl, H0, n, s0, hT, ?_⟩
    cases hb : bgn H0 _ with
    | false =>
      rw [gdT_not hb] at q
      refine ⟨false, rfl, ?_⟩
      rw [if_pos (by decide)]
      exact q
    | true =>
      refine ⟨true, rfl, ?_⟩
      rw [if_neg (by decide)]
      cases hT with
      | flat h hw => rw [bgn_flat h hw] at hb; cases hb
      | @tup n a xs at0 hx =>
        rw [bgn_tup at0] at hb
        match xs, at0, hx, hb with
        | [], at0, hx, hb => cases hb
        | [x], at0, hx, hb => cases hb
        | x :: y :: r, at0, hx, hb =>
          have hb : (isS x && isI y) = true := hb
          rw [Bool.and_eq_true] at hb
          obtain ⟨w, rfl⟩ := isS_eq hb.1
          obtain ⟨k, rfl⟩ := isI_eq hb.2
          have at1 := s0 _ _ at0
          rw [gdT_tup at0] at q
          have i0 : atI (V.str w :: V.int k :: r) ((0 : Nat) : Int) = some (.str w) := atI_nat rfl
          have i1 : atI (V.str w :: V.int k :: r) ((1 : Nat) : Int) = some (.int k) := atI_nat rfl
          refine ixX_t (SqT.of at1) i0 (ixX_t (SqT.of at1) i1 ?_)
          (try walk_at "rd")
          refine ⟨_, .inr (SqT.of at1), ?_⟩
          match r, at0, at1, hx, q with
          | [], at0, at1, hx, q =>
            have q : Q (.bl (if w = "one" then tkI fs k ti else if w = "other" then tkI gs k to else false)) H := q
            rw [if_pos (by simp)]
            by_cases c1 : w = "one"
            · rw [if_pos c1] at q ⊢
              exact ⟨_, _, _, rfl, p1, fs, k, ti, rfl, f1, rfl, rfl, q⟩
            · rw [if_neg c1] at q ⊢
              refine ⟨_, .inr (SqT.of at1), ?_⟩
              rw [if_pos (by simp)]
              by_cases c2 : w = "other"
              · rw [if_pos c2] at q ⊢
                exact ⟨_, _, _, rfl, p2, gs, k, to, rfl, f2, rfl, rfl, q⟩
              · rw [if_neg c2] at q ⊢
                refine ⟨_, .inr (SqT.of at1), ?_⟩
                rw [if_neg (by simp)]
                exact q
          | [x], at0, at1, hx, q =>
            have q : Q (.bl false) H := q
            rw [if_neg (by simp)]
            refine ⟨_, .inr (SqT.of at1), ?_⟩
            rw [if_neg (by simp)]
            refine ⟨_, .inr (SqT.of at1), ?_⟩
            rw [if_neg (by simp)]
            exact q
          | x :: y :: z :: r, at0, at1, hx, q =>
            have q : Q (.bl false) H := q
            rw [if_neg (by simp; omega)]
            refine ⟨_, .inr (SqT.of at1), ?_⟩
            rw [if_neg (by simp; omega)]
            refine ⟨_, .inr (SqT.of at1), ?_⟩
            rw [if_neg (by simp; omega)]
            exact q
          | [x, y], at0, at1, hx, q =>
            have q : Q (.bl ((decide (w = "name") && frI m k (ti ||| to)) && (gdT H0 m fs gs n x (ti ||| 2 ^ k.toNat) to && gdT H0 m fs gs n y ti (to ||| 2 ^ k.toNat)))) H := q
            rw [if_neg (by simp)]
            refine ⟨_, .inr (SqT.of at1), ?_⟩
            rw [if_neg (by simp)]
            refine ⟨_, .inr (SqT.of at1), ?_⟩
            rw [if_pos (by simp)]
            by_cases c1 : w = "name"
            · rw [if_pos c1]
              rw [decide_eq_true c1, Bool.true_and] at q
              rw [or_nat]
              refine ⟨_, _, _, rfl, m, k, ti ||| to, rfl, rfl, rfl, ?_⟩
              cases hf : frI m k (ti ||| to) with
              | false =>
                rw [hf, Bool.false_and] at q
                exact ⟨false, rfl, iteF q⟩
              | true =>
                rw [hf, Bool.true_and] at q
                unfold frI at hf
                rw [Bool.and_eq_true, Bool.and_eq_true, decide_eq_true_eq, decide_eq_true_eq] at hf
                obtain ⟨j, rfl⟩ := Int.eq_ofNat_of_zero_le hf.1
                rw [Int.toNat_natCast] at q
                have hk : j < m := by have := hf.2.1; omega
                have i2 : atI [V.str w, .int (j : Nat), x, y] ((2 : Nat) : Int) = some x := atI_nat rfl
                have i3 : atI [V.str w, .int (j : Nat), x, y] ((3 : Nat) : Int) = some y := atI_nat rfl
                refine ⟨true, rfl, iteT (ixX_t (SqT.of at1) i2 ?_)⟩
                (try walk_at "rd")
                refine ⟨cpow_of (by omega) (by omega) (by decide) (by decide), ?_⟩
                rw [shl_one, or_nat]
                refine ⟨_, _, _, _, _, _, rfl, m, p1, p2, fs, gs, x, ti ||| 2 ^ j, to, H0, rfl, hm, rfl, f1, rfl, f2, rfl, s0, hx x (by simp), rfl, rfl, ?_⟩
                cases hl : gdT H0 m fs gs n x (ti ||| 2 ^ j) to with
                | false =>
                  rw [hl, Bool.false_and] at q
                  exact ⟨false, rfl, iteF q⟩
                | true =>
                  rw [hl, Bool.true_and] at q
                  refine ⟨true, rfl, iteT (ixX_t (SqT.of at1) i3 ?_)⟩
                  (try walk_at "rd")
                  refine ⟨cpow_of (by omega) (by omega) (by decide) (by decide), ?_⟩
                  (try rw [shl_one])
                  (try rw [or_nat])
                  exact ⟨_, _, _, _, _, _, rfl, m, p1, p2, fs, gs, y, ti, to ||| 2 ^ j, H0, rfl, hm, rfl, f1, rfl, f2, rfl, s0, hx y (by simp), rfl, rfl, q⟩
            · rw [decide_eq_false c1, Bool.false_and, Bool.false_and] at q
              rw [if_neg c1]
              exact q
theorem z_is_good_with {f : Addr} {fd : FuncData} (F : Fun K "is_good_with" "is_good_with" s_is_good_with f fd) : FnOk P w K mg base CX0 (3 + 0) f fd ["many", "one", "other", "paper", "taken_in", "taken_out"] (spGW K 0) := by
  refine F.ok (k := 2) sc_is_good_with (fun vs H Q E h => ?_) (fun cdv A outer s H vs Q E hr h => ?_)
  · obtain ⟨_, _, _, _, _, _, rfl, h⟩ := h
    exact absurd h id
  · obtain ⟨_, _, _, _, _, _, rfl, h⟩ := h
    exact absurd h id
abbrev s_is_good : Stmt := top 4
theorem sc_is_good : FnScope ["many", "one", "other", "paper"] ["many", "one", "other", "paper"] (defScope s_is_good) := ⟨rfl, rfl, rfl, by decide +kernel, rfl, by decide +kernel, by decide +kernel⟩
def spIG (K : PySem.W.Frag) : Sp := sp4 fun x y z u H Q => ∃ (m : Nat) (p1 p2 : Addr) (fs gs : List Nat) (H0 : Hp), x = .int (m : Nat) ∧ m ≤ 8 ∧ y = .ref p1 ∧ SqL K H p1 (nV fs) ∧ z = .ref p2 ∧ SqL K H p2 (nV gs) ∧ Same H0 H ∧ Thg H0 11 u ∧ Q (.bl (gdT H0 m fs gs 11 u 0 0)) H
set_option maxHeartbeats 4000000 in
theorem ok_is_good {f : Addr} {fd : FuncData} (F : Fun K "is_good" "is_good" s_is_good f fd) (T : Txt mg) {f_is_good_with : Addr} {fd_is_good_with : FuncData} (C_is_good_with : Cal P w K mg base "is_good_with" 15 ["many", "one", "other", "paper", "taken_in", "taken_out"] (spGW K 12) f_is_good_with fd_is_good_with) : FnOk P w K mg base CX0 16 f fd ["many", "one", "other", "paper"] (spIG K) := by
  have sc := sc_is_good
  refine F.ok sc_is_good (fun vs H Q E h => ?_) (fun cdv A outer s H vs Q E hr h => ?_)
  · obtain ⟨_, _, _, _, rfl, _⟩ := h
    rfl
  · obtain ⟨x0, x1, x2, x3, rfl, h⟩ := h
    refine ⟨_, (pss_one (ps_ret (pe_cal C_is_good_with hr (by decide) (by rfl) (pa_consN (pv 0) (pa_consN (pv 1) (pa_consN (pv 2) (pa_consN (pv 3) (pa_consC pe_int (pa_consC pe_int pa_nil))))))))), ?_⟩
    refine rdg (σ' := [some x0, some x1, some x2, some x3]) rfl ?_
    obtain ⟨m, p1, p2, fs, gs, H0, rfl, hm, rfl, f1, rfl, f2, s0, hT, q⟩ := h
    walk_at "rd"
    exact ⟨_, _, _, _, _, _, rfl, m, p1, p2, fs, gs, _, 0, 0, H0, rfl, hm, rfl, f1, rfl, f2, rfl, s0, hT, rfl, rfl, q⟩
abbrev s__law_at : Stmt := top 10
theorem sc__law_at : FnScope ["_law_script", "_law_k"] ["_law_script", "_law_k"] (defScope s__law_at) := ⟨rfl, rfl, rfl, by decide +kernel, rfl, by decide +kernel, by decide +kernel⟩
def spCell (K : PySem.W.Frag) : Sp := sp2 fun x y H Q => ∃ (a : Addr) (ns : List Int) (k : Nat), x = .ref a ∧ SqL K H a (ns.map V.int) ∧ ns.length ≤ 63 ∧ y = .int k ∧ k ≤ 1000 ∧ ∀ z : Int, Q (.int z) H
theorem ints_at {ns : List Int} {i : Int} (h0 : 0 ≤ i) (h1 : i < ns.length) : ∃ z, atI (ns.map V.int) i = some (.int z) := by
  refine ⟨ns[i.toNat]'(by omega), ?_⟩
  unfold atI ixN
  rw [if_pos h0, if_pos (by rw [List.length_map]; exact h1)]
  simp [List.getElem?_eq_getElem (show i.toNat < ns.length by omega)]
set_option maxHeartbeats 4000000 in
theorem ok__law_at {f : Addr} {fd : FuncData} (F : Fun K "_law_at" "_law_at" s__law_at f fd) (T : Txt mg)  : FnOk P w K mg base CX0 1 f fd ["_law_script", "_law_k"] (spCell K) := by
  have sc := sc__law_at
  refine F.ok sc__law_at (fun vs H Q E h => ?_) (fun cdv A outer s H vs Q E hr h => ?_)
  · obtain ⟨_, _, rfl, _⟩ := h
    rfl
  · obtain ⟨x0, x1, rfl, h⟩ := h
    refine ⟨_, (pss_cons (ps_if (pt_cmpR op_lt (pv 1) (pe_callB (call_lenK (K := K) rfl) (by rfl) T.n_len PySem.boot_len (pa_cons (pv 0) pa_nil)) (nomark _)) (pss_one (ps_ret (pe_ix (ix_K (K := K) rfl) (pv 0) (pv 1) (fun _ _ => rfl)))) pss_nil)
      (pss_cons (ps_if (pt_cmpR (op_eqK (K := K) rfl hr.units0) (pe_callB (call_lenK (K := K) rfl) (by rfl) T.n_len PySem.boot_len (pa_cons (pv 0) pa_nil)) pe_int (nomark _)) (pss_one (ps_ret (pe_op op_add (pe_op op_mul (pe_op op_mul (pv 1) (pv 1)) pe_int) pe_int))) pss_nil)
      (pss_one (ps_ret (pe_op op_add (pe_op op_mul (pe_ix (ix_K (K := K) rfl) (pv 0) (pe_op op_mod (pv 1) (pe_callB (call_lenK (K := K) rfl) (by rfl) T.n_len PySem.boot_len (pa_cons (pv 0) pa_nil))) (fun _ _ => rfl)) (pe_op op_add (pv 1) pe_int)) (pe_op op_mul (pe_op op_mul (pv 1) (pv 1)) pe_int)))))), ?_⟩
    refine rdg (σ' := [some x0, some x1]) rfl ?_
    obtain ⟨a, ns, k, rfl, hS, hl, rfl, hk, q⟩ := h
    walk_at "rd"
    refine ⟨_, .inl hS, ?_⟩
    rw [List.length_map]
    split
    · rename_i hc
      obtain ⟨z, hz⟩ := ints_at (ns := ns) (i := k) (by omega) (by omega)
      exact ixX_l hS hz (q z)
    rename_i hc
    refine ⟨_, .inl hS, ?_⟩
    rw [List.length_map]
    split
    · rename_i h0
      exact ⟨.inl ⟨by omega, by omega⟩, .inr ⟨by decide, by decide⟩, q _⟩
    rename_i h0
    refine ⟨_, .inl hS, by rw [List.length_map]; omega, ?_⟩
    rw [List.length_map]
    have e0 := Int.emod_nonneg (k : Int) (show (ns.length : Int) ≠ 0 by omega)
    have e1 := Int.emod_lt_of_pos (k : Int) (show (0 : Int) < ns.length by omega)
    obtain ⟨z, hz⟩ := ints_at (ns := ns) e0 e1
    refine ixX_l hS hz ?_
    (try walk_at "rd")
    exact ⟨.inr ⟨by omega, by omega⟩, .inl ⟨by omega, by omega⟩, .inr ⟨by decide, by decide⟩, q _⟩
abbrev s__law_drawn : Stmt := top 11
theorem sc__law_drawn : FnScope ["_law_cell", "_law_k", "_law_size", "_law_number"] ["_law_cell", "_law_k", "_law_size"] (defScope s__law_drawn) := ⟨rfl, rfl, rfl, by decide +kernel, rfl, by decide +kernel, by decide +kernel⟩
def spDrawn : Sp := sp3 fun x y z H Q => ∃ (c : Int) (k n : Nat), x = .int c ∧ y = .int k ∧ k ≤ 1000 ∧ z = .int n ∧ 0 < n ∧ ∀ b : Nat, b < n → Q (.int b) H
set_option maxHeartbeats 4000000 in
theorem ok__law_drawn {f : Addr} {fd : FuncData} (F : Fun K "_law_drawn" "_law_drawn" s__law_drawn f fd) (T : Txt mg)  : FnOk P w K mg base CX0 1 f fd ["_law_cell", "_law_k", "_law_size"] spDrawn := by
  have sc := sc__law_drawn
  refine F.ok sc__law_drawn (fun vs H Q E h => ?_) (fun cdv A outer s H vs Q E hr h => ?_)
  · obtain ⟨_, _, _, rfl, _⟩ := h
    rfl
  · obtain ⟨x0, x1, x2, rfl, h⟩ := h
    refine ⟨_, (pss_cons (ps_set (i := 3) sc.nd rfl (Or.inl rfl) (pe_op op_mul (pe_op op_add (pe_op op_add (pe_op op_mod (pv 0) pe_int) (pe_op op_mul pe_int (pv 1))) pe_int) (pe_op op_add pe_int (pe_op op_mul (pv 1) (pv 1)))))
      (pss_one (ps_ret (pe_op op_mod (pe_op op_mod (pe_op op_mul (pv 3) (pv 3)) pe_int) (pv 2))))), ?_⟩
    refine rdg (σ' := [some x0, some x1, some x2, none]) rfl ?_
    obtain ⟨c, k, n, rfl, rfl, hk, rfl, hn, q⟩ := h
    walk_at "rd"
    have c0 := Int.emod_nonneg c (show (2147483629 : Int) ≠ 0 by decide)
    have c1 := Int.emod_lt_of_pos c (show (0 : Int) < 2147483629 by decide)
    obtain ⟨d, hd⟩ := Int.eq_ofNat_of_zero_le c0
    rw [hd] at c1 ⊢
    have kk : k * k ≤ 1000000 := Nat.le_trans (Nat.mul_le_mul hk hk) (by decide)
    have en : ((d : Int) + 5 * (k : Int) + 1) * (48271 + (k : Int) * (k : Int)) = (((d + 5 * k + 1) * (48271 + k * k) : Nat) : Int) := by simp
    have bn : (d + 5 * k + 1) * (48271 + k * k) ≤ 3000000000 * 2000000 := Nat.mul_le_mul (by omega) (by omega)
    rw [en]
    generalize (d + 5 * k + 1) * (48271 + k * k) = x at bn ⊢
    have ex : (x : Int) * (x : Int) % 2147483647 % (n : Int) = ((x * x % 2147483647 % n : Nat) : Int) := by simp
    rw [ex]
    have ek : (k : Int) * (k : Int) = ((k * k : Nat) : Int) := by simp
    exact ⟨by decide, .inl ⟨by decide, by decide⟩, .inl ⟨by omega, by omega⟩, .inr ⟨by rw [ek]; omega, by rw [ek]; omega⟩, .inl ⟨by omega, by omega⟩, by decide, by omega, q _ (Nat.mod_lt _ hn)⟩
abbrev s__law_whole : Stmt := top 19
theorem sc__law_whole : FnScope ["_law_thing"] ["_law_thing"] (defScope s__law_whole) := ⟨rfl, rfl, rfl, by decide +kernel, rfl, by decide +kernel, by decide +kernel⟩
def spLWhole : Sp := sp1 fun x H Q => ∃ w, kdOf H x = some w ∧ Q (.bl (isI x)) H
set_option maxHeartbeats 4000000 in
theorem ok__law_whole {f : Addr} {fd : FuncData} (F : Fun K "_law_whole" "_law_whole" s__law_whole f fd) (T : Txt mg)  : FnOk P w K mg base CX0 1 f fd ["_law_thing"] spLWhole := by
  have sc := sc__law_whole
  refine F.ok sc__law_whole (fun vs H Q E h => ?_) (fun cdv A outer s H vs Q E hr h => ?_)
  · obtain ⟨_, rfl, _⟩ := h
    rfl
  · obtain ⟨x0, rfl, h⟩ := h
    refine ⟨_, (pss_one (ps_ret (pe_and (pe_callB call_isinst (by rfl) T.n_isinstance PyProof.Rows.boot_isinstance (pa_cons (pv 0) (pa_cons (pe_bltn (v := .ty "int") (by rfl) T.n_int PyProof.Rows.boot_int rfl) pa_nil))) (pe_one (pe_not (pe_callB call_isinst (by rfl) T.n_isinstance PyProof.Rows.boot_isinstance (pa_cons (pv 0) (pa_cons (pe_bltn (v := .ty "bool") (by rfl) T.n_bool PyProof.Rows.boot_bool rfl) pa_nil)))))))), ?_⟩
    refine rdg (σ' := [some x0]) rfl ?_
    obtain ⟨w, hw, q⟩ := h
    walk_at "rd"
    rw [← kd_int hw] at q
    refine ⟨_, "int", ⟨rfl, rfl⟩, w, hw, by decide, ?_⟩
    cases h1 : subT w "int" with
    | false =>
      rw [h1] at q
      exact iteF q
    | true =>
      rw [h1] at q
      exact iteT ⟨_, "bool", ⟨rfl, rfl⟩, w, hw, by decide, q⟩
abbrev s__law_family : Stmt := top 12
theorem sc__law_family : FnScope ["_law_script", "_law_k", "_law_many", "_law_cell", "_law_found", "_law_j", "_law_one"] ["_law_script", "_law_k", "_law_many"] (defScope s__law_family) := ⟨rfl, rfl, rfl, by decide +kernel, rfl, by decide +kernel, by decide +kernel⟩
theorem put_keys (kvs : List (Key × V)) (L : List Nat) (b : Nat) (v : V) (h : kvs.map (·.1) = (nI L).map Sum.inl) : (putK kvs (Sum.inl (b : Int)) v).map (·.1) = (nI (if b ∈ L then L else L ++ [b])).map Sum.inl := by
  have hm : (kvs.any fun kv => decide (kv.1 = Sum.inl (b : Int))) = true ↔ b ∈ L := by
    rw [List.any_eq_true]
    constructor
    · rintro ⟨kv, h1, h2⟩
      have h3 : kv.1 ∈ kvs.map (·.1) := List.mem_map.mpr ⟨kv, h1, rfl⟩
      rw [h, of_decide_eq_true h2] at h3
      obtain ⟨z, hz, e⟩ := List.mem_map.mp h3
      obtain ⟨c, hc, rfl⟩ := List.mem_map.mp hz
      have := Sum.inl.inj e
      have : c = b := by omega
      exact this ▸ hc
    · intro hb
      have h3 : (Sum.inl (b : Int) : Key) ∈ kvs.map (·.1) := by rw [h]; exact List.mem_map.mpr ⟨b, List.mem_map.mpr ⟨b, hb, rfl⟩, rfl⟩
      obtain ⟨kv, h1, h2⟩ := List.mem_map.mp h3
      exact ⟨kv, h1, decide_eq_true h2⟩
  unfold putK
  by_cases c : b ∈ L
  · rw [if_pos (hm.mpr c), if_pos c, ← h, List.map_map]
    refine List.map_congr_left fun kv _ => ?_
    show (if kv.1 = Sum.inl (b : Int) then (kv.1, v) else kv).1 = kv.1
    split <;> rfl
  · rw [if_neg (fun z => c (hm.mp z)), if_neg c, List.map_append, h]
    simp
def spFamily (K : PySem.W.Frag) : Sp := sp3 fun x y z H Q => ∃ (a : Addr) (ns : List Int) (k m : Nat), x = .ref a ∧ SqL K H a (ns.map V.int) ∧ ns.length ≤ 63 ∧ y = .int k ∧ k ≤ 500 ∧ z = .int m ∧ m ≤ 8 ∧ ∀ (p' : Addr) (fs : List Nat) (H' : Hp), H p' = none → Same H H' → H' p' = some (.lst (nV fs)) → fs.Pairwise (· < ·) → (∀ b ∈ fs, b < 2 ^ m) → fs.length ≤ 70 → Q (.ref p') H'
theorem le256 {m : Nat} (hm : m ≤ 8) : 2 ^ m ≤ 256 := Nat.pow_le_pow_right (n := 2) (by decide) hm
set_option maxHeartbeats 4000000 in
theorem ok__law_family {f : Addr} {fd : FuncData} (F : Fun K "_law_family" "_law_family" s__law_family f fd) (T : Txt mg) {f__law_at : Addr} {fd__law_at : FuncData} (C__law_at : Cal P w K mg base "_law_at" 1 ["_law_script", "_law_k"] (spCell K) f__law_at fd__law_at) {f__law_drawn : Addr} {fd__law_drawn : FuncData} (C__law_drawn : Cal P w K mg base "_law_drawn" 1 ["_law_cell", "_law_k", "_law_size"] spDrawn f__law_drawn fd__law_drawn) : FnOk P w K mg base CX0 2 f fd ["_law_script", "_law_k", "_law_many"] (spFamily K) := by
  have sc := sc__law_family
  refine F.ok sc__law_family (fun vs H Q E h => ?_) (fun cdv A outer s H vs Q E hr h => ?_)
  · obtain ⟨_, _, _, rfl, _⟩ := h
    rfl
  · obtain ⟨x0, x1, x2, rfl, h⟩ := h
    refine ⟨_, (pss_cons (ps_set (i := 3) sc.nd rfl (Or.inl rfl) (pe_cal C__law_at hr (by decide) (by rfl) (pa_cons (pv 0) (pa_cons (pv 1) pa_nil))))
      (pss_cons (ps_set (i := 4) sc.nd rfl (Or.inl rfl) pe_dnewK)
      (pss_cons (ps_for PassesOwn.never rfl (pi_range1 (by rfl) T.n_range (pa_cons (pe_op op_mod (pv 3) pe_int) pa_nil)) (pg_name (i := 5) sc.nd rfl (Or.inl rfl)) (pss_cons (ps_set (i := 6) sc.nd rfl (Or.inl rfl) (pe_cal C__law_drawn hr (by decide) (by rfl) (pa_cons (pe_cal C__law_at hr (by decide) (by rfl) (pa_cons (pv 0) (pa_cons (pe_op op_add (pv 1) pe_int) pa_nil))) (pa_cons (pe_op op_mul pe_int (pv 5)) (pa_cons (pe_op op_shl pe_int (pv 2)) pa_nil)))))
      (pss_cons (ps_if (pt_cmpR op_gt (pe_op op_mod (pe_op op_fdivB (pv 3) pe_int) pe_int) pe_int (nomark _)) (pss_one (ps_set (i := 6) sc.nd rfl (Or.inl rfl) (pe_op op_and (pv 6) (pe_cal C__law_drawn hr (by decide) (by rfl) (pa_cons (pe_cal C__law_at hr (by decide) (by rfl) (pa_cons (pv 0) (pa_cons (pe_op op_add (pv 1) pe_int) pa_nil))) (pa_cons (pe_op op_add (pe_op op_mul pe_int (pv 5)) pe_int) (pa_cons (pe_op op_shl pe_int (pv 2)) pa_nil))))))) pss_nil)
      (pss_one (ps_dput (hu_of hr) (pv 4) (pv 6) pe_bl rfl)))))
      (pss_one (ps_ret (pe_callB (call_sortD rfl) (by rfl) T.n_sorted PyProof.Rows.boot_sorted (pa_cons (pv 4) pa_nil))))))), ?_⟩
    refine rdg (σ' := [some x0, some x1, some x2, none, none, none, none]) rfl ?_
    obtain ⟨a, ns, k, m, rfl, hS, hl, rfl, hk, rfl, hm, q⟩ := h
    walk_at "rd"
    have pp := Nat.two_pow_pos m
    have p8 := le256 hm
    refine ⟨_, _, rfl, a, ns, k, rfl, hS, hl, rfl, by omega, fun c => ?_⟩
    (try walk_at "rd")
    intro p0 hp0
    generalize gG0 : upd H p0 _ = G0
    have a0 := new_at gG0
    have t0 := new_sm gG0 hp0
    have t1 := t0
    have w0 := Int.emod_nonneg c (show (13 : Int) ≠ 0 by decide)
    have w1 := Int.emod_lt_of_pos c (show (0 : Int) < 13 by decide)
    obtain ⟨cnt, hc⟩ := Int.eq_ofNat_of_zero_le w0
    rw [hc] at w1 ⊢
    refine ⟨by decide, by omega, by omega, ?_⟩
    rw [Int.toNat_natCast]
    refine loopRn (fun i σ H3 => ∃ (v1 v2 : Option V) (kvs : List (Key × V)) (L : List Nat), σ = [some (.ref a), some (.int k), some (.int m), some (.int c), some (.ref p0), v1, v2] ∧ Same H H3 ∧ H3 p0 = some (.dK kvs) ∧ kvs.map (·.1) = (nI L).map Sum.inl ∧ L.Nodup ∧ L.length ≤ i ∧ ∀ b ∈ L, b < 2 ^ m) ⟨none, none, [], [], rfl, t1, a0, rfl, List.nodup_nil, Nat.le_refl _, fun b hb => (by cases hb)⟩ ?_ ?_
    · rintro i σ H3 hi ⟨v1, v2, kvs, L, rfl, s3, b0, hkv, hnd, hL, hb⟩ N0 hN0
      have hS3 := s3.seq hS
      (try walk_at "rd")
      refine ⟨_, _, rfl, a, ns, k + 1, rfl, hS3, hl, by simp, by omega, fun c1 => ?_⟩
      rw [shl_one]
      refine ⟨.inl ⟨by decide, by decide⟩, cpow_of (by omega) (by omega) (by decide) (by decide), _, _, _, rfl, c1, 3 * i, 2 ^ m, rfl, by simp, by omega, rfl, pp, fun one w1 => ?_⟩
      refine seqCut (fun σ' H2 => ∃ b : Nat, b < 2 ^ m ∧ σ' = [some (.ref a), some (.int k), some (.int m), some (.int c), some (.ref p0), some (.int (i : Nat)), some (.int (b : Nat))] ∧ H2 = H3) ?_ fun N hN => ?_
      rotate_left
      · (try walk_at "rd")
        refine ⟨⟨by decide, by decide⟩, by decide, ite2 (fun h1 => ?_) fun h1 => hN _ _ ⟨one, w1, rfl, rfl⟩⟩
        refine ⟨_, _, rfl, a, ns, k + 1, rfl, hS3, hl, by simp, by omega, fun c2 => ?_⟩
        rw [shl_one]
        refine ⟨.inl ⟨by decide, by decide⟩, cpow_of (by omega) (by omega) (by decide) (by decide), _, _, _, rfl, c2, 3 * i + 1, 2 ^ m, rfl, by simp, by omega, rfl, pp, fun two w2 => ?_⟩
        (try walk_at "rd")
        rw [and_nat]
        exact hN _ _ ⟨_, Nat.lt_of_le_of_lt Nat.and_le_left w1, rfl, rfl⟩
      clear w1
      rintro σ' H4 ⟨one, w1, rfl, rfl⟩
      (try walk_at "rd")
      have lk : kvs.length = L.length := by have := congrArg List.length hkv; simpa using this
      refine ⟨_, DPut.k (k := Sum.inl (one : Int)) b0 (small5' (by omega)), hN0 _ _ ⟨_, _, _, if one ∈ L then L else L ++ [one], rfl, s3.upd hp0, upd_same, put_keys kvs L one _ hkv, ?_, ?_, fun b hb' => ?_⟩⟩
      · split
        · exact hnd
        · rename_i hne
          exact List.nodup_append.mpr ⟨hnd, by simp, fun x hx y hy e => hne (by rw [show y = one by simpa using hy] at e; exact e ▸ hx)⟩
      · split
        · omega
        · rw [List.length_append]
          simp
          omega
      · split at hb'
        · exact hb b hb'
        · rcases List.mem_append.mp hb' with z | z
          · exact hb b z
          · rw [show b = one by simpa using z]; exact w1
    · rintro σ H3 ⟨v1, v2, kvs, L, rfl, s3, b0, hkv, hnd, hL, hb⟩
      (try walk_at "rd")
      refine ⟨p0, kvs, nI L, rfl, b0, hkv, by rw [List.length_map]; omega, fun l ms hl2 m1 m2 => ?_⟩
      rw [sorted_nd hnd m1 m2]
      exact q l _ _ (old_none s3 hl2) (s3.trans (Same.new hl2)) upd_same (sd_rise L) (fun b hb' => hb b (mem_sd.mp hb')) (sd_le L (by omega))
abbrev s__law_grown : Stmt := top 13
theorem sc__law_grown : FnScope ["_law_script", "_law_pen", "_law_many", "_law_room", "_law_cell", "_law_first"] ["_law_script", "_law_pen", "_law_many", "_law_room"] (defScope s__law_grown) := ⟨rfl, rfl, rfl, by decide +kernel, rfl, by decide +kernel, by decide +kernel⟩
def spGr (K : PySem.W.Frag) : Nat → Sp
  | 0 => fun vs H Q _ => ∃ x1 x2 x3 x4, vs = [x1, x2, x3, x4] ∧ False
  | n + 1 => fun vs H Q _ => ∃ x1 x2 x3 x4, vs = [x1, x2, x3, x4] ∧ ∃ (a pp : Addr) (ns : List Int) (pa m r : Nat), x1 = .ref a ∧ (∀ H', SamX pp H H' → SqL K H' a (ns.map V.int)) ∧ ns.length ≤ 63 ∧ x2 = .ref pp ∧ H pp = some (.lst [.int (pa : Nat)]) ∧ x3 = .int (m : Nat) ∧ m ≤ 8 ∧ x4 = .int (r : Nat) ∧ r ≤ n ∧ pa + 2 ^ (r + 1) ≤ 200 ∧ ∀ H' t (pa' : Nat), SamX pp H H' → H' pp = some (.lst [.int (pa' : Nat)]) → pa' + 1 ≤ pa + 2 ^ (r + 1) → Thg H' (r + 1) (.ref t) → Q (.ref t) H'
set_option maxHeartbeats 4000000 in
theorem ok__law_grown {f : Addr} {fd : FuncData} (F : Fun K "_law_grown" "_law_grown" s__law_grown f fd) (T : Txt mg) {f__law_at : Addr} {fd__law_at : FuncData} (C__law_at : Cal P w K mg base "_law_at" 1 ["_law_script", "_law_k"] (spCell K) f__law_at fd__law_at) (n : Nat) (C__law_grown : Cal P w K mg base "_law_grown" (2 + n) ["_law_script", "_law_pen", "_law_many", "_law_room"] (spGr K n) f fd) : FnOk P w K mg base CX0 (2 + n + 1) f fd ["_law_script", "_law_pen", "_law_many", "_law_room"] (spGr K (n + 1)) := by
  have sc := sc__law_grown
  refine F.ok sc__law_grown (fun vs H Q E h => ?_) (fun cdv A outer s H vs Q E hr h => ?_)
  · obtain ⟨_, _, _, _, rfl, _⟩ := h
    rfl
  · obtain ⟨x0, x1, x2, x3, rfl, h⟩ := h
    refine ⟨_, (pss_cons (ps_asg (pe_op op_add (pe_ix (ix_K (K := K) rfl) (pv 1) pe_int (fun _ _ => rfl)) pe_int) (pg_sub (pv 1) pe_int set_list))
      (pss_cons (ps_set (i := 4) sc.nd rfl (Or.inl rfl) (pe_op op_fdivB (pe_cal C__law_at hr (by omega) (by rfl) (pa_cons (pv 0) (pa_cons (pe_op op_add pe_int (pe_op op_mod (pe_ix (ix_K (K := K) rfl) (pv 1) pe_int (fun _ _ => rfl)) pe_int)) pa_nil))) (pe_op op_add pe_int (pe_op op_fdivB (pe_ix (ix_K (K := K) rfl) (pv 1) pe_int (fun _ _ => rfl)) pe_int))))
      (pss_cons (ps_if (PW.pt (pw_or (pt_cmpR (op_eqK (K := K) rfl hr.units0) (pv 3) pe_int (nomark _)) (pw_or1 (pt_cmpR (op_eqK (K := K) rfl hr.units0) (pe_op op_mod (pv 4) pe_int) pe_int (nomark _))))) (pss_one (ps_ret (pe_tup (pa_cons (pe_ix (ix_K (K := K) rfl) (pe_lst (pa_cons pe_str (pa_cons pe_str pa_nil))) (pe_op op_mod (pe_op op_fdivB (pv 4) pe_int) pe_int) (fun _ _ => rfl)) (pa_cons (pe_op op_sub (pe_op op_mod (pe_op op_fdivB (pv 4) pe_int) pe_int) (pe_callTy call_int1 (by rfl) T.n_int PyProof.Rows.boot_int (pa_cons (pe_cmpR (op_eqK (K := K) rfl hr.units0) (pe_op op_mod (pe_op op_fdivB (pv 4) pe_int) pe_int) pe_int (nomark _)) pa_nil))) pa_nil))))) pss_nil)
      (pss_cons (ps_set (i := 5) sc.nd rfl (Or.inl rfl) (pe_cal C__law_grown hr (by omega) (by rfl) (pa_cons (pv 0) (pa_cons (pv 1) (pa_cons (pv 2) (pa_cons (pe_op op_sub (pv 3) pe_int) pa_nil))))))
      (pss_one (ps_ret (pe_tup (pa_cons pe_str (pa_cons (pe_op op_mod (pe_op op_fdivB (pv 4) pe_int) (pe_op op_add (pv 2) pe_int)) (pa_cons (pv 5) (pa_cons (pe_cal C__law_grown hr (by omega) (by rfl) (pa_cons (pv 0) (pa_cons (pv 1) (pa_cons (pv 2) (pa_cons (pe_op op_sub (pv 3) pe_int) pa_nil))))) pa_nil))))))))))), ?_⟩
    refine rdg (σ' := [some x0, some x1, some x2, some x3, none, none]) rfl ?_
    obtain ⟨a, pp, ns, pa, m, r, rfl, SS, hl, rfl, fp, rfl, hm, rfl, hr, hb, q⟩ := h
    walk_at "rd"
    refine ixX_l (SqL.of fp) rfl ?_
    (try walk_at "rd")
    refine ⟨pp, _, _, 0, rfl, rfl, fp, rfl, ?_⟩
    have ep : ([V.int (pa : Nat)]).set 0 (V.int ((pa : Int) + 1)) = [V.int ((pa + 1 : Nat))] := by simp
    rw [ep]
    generalize gp : upd H pp _ = H1
    have fp := new_at gp
    have sx : SamX pp H H1 := by rw [← gp]; exact SamX.upd
    have hS := SS _ sx
    have p2 : 2 ^ (r + 1) = 2 * 2 ^ r := by rw [Nat.pow_succ, Nat.mul_comm]
    have pr := Nat.two_pow_pos r
    refine ixX_l (SqL.of fp) rfl ?_
    (try walk_at "rd")
    have e50 : (10 : Int) + ((pa + 1 : Nat) : Int) % 50 = ((10 + (pa + 1) % 50 : Nat) : Int) := by omega
    rw [e50]
    refine ⟨by decide, _, _, rfl, a, ns, 10 + (pa + 1) % 50, rfl, hS, hl, rfl, by omega, fun c0 => ?_⟩
    refine ixX_l (SqL.of fp) rfl ?_
    (try walk_at "rd")
    refine ⟨⟨by decide, by decide⟩, ⟨by omega, by omega⟩, ?_⟩
    generalize c0 / (1 + ((pa + 1 : Nat) : Int) / 50) = c
    refine ite2 (fun h0 => ?_) fun h0 => ⟨by decide, ite2 (fun h0' => ?_) fun h0' => ?_⟩
    · refine ⟨small5 (by simp), fun p5 hp5 => ⟨⟨by decide, by decide⟩, by decide, ?_⟩⟩
      generalize g5 : upd H1 p5 _ = G5
      have a5 := new_at g5
      obtain ⟨w, eo⟩ : ∃ w, atI [V.str "one", V.str "other"] (c / 4 % 2) = some (.str w) := by
        have h2 : c / 4 % 2 = 0 ∨ c / 4 % 2 = 1 := by omega
        rcases h2 with z | z <;> rw [z]
        · exact ⟨"one", rfl⟩
        · exact ⟨"other", rfl⟩
      refine ixX_l (SqL.of a5) eo ⟨⟨by decide, by decide⟩, by decide, ⟨by decide, by decide⟩, by decide, small5 (by simp), fun t ht => ?_⟩
      have s5 := (new_sm g5 hp5).trans (Same.new (o := .tup [.str w, .int (c / 8 % 4 - if c / 32 % 9 = 0 then 1 else 0)]) ht)
      exact q _ t (pa + 1) (sx.trans (SamX.of s5)) (s5 _ _ fp) (by omega) (.tup upd_same (thc .str (thc .int th0)))
    · refine ⟨small5 (by simp), fun p5 hp5 => ⟨⟨by decide, by decide⟩, by decide, ?_⟩⟩
      generalize g5 : upd H1 p5 _ = G5
      have a5 := new_at g5
      obtain ⟨w, eo⟩ : ∃ w, atI [V.str "one", V.str "other"] (c / 4 % 2) = some (.str w) := by
        have h2 : c / 4 % 2 = 0 ∨ c / 4 % 2 = 1 := by omega
        rcases h2 with z | z <;> rw [z]
        · exact ⟨"one", rfl⟩
        · exact ⟨"other", rfl⟩
      refine ixX_l (SqL.of a5) eo ⟨⟨by decide, by decide⟩, by decide, ⟨by decide, by decide⟩, by decide, small5 (by simp), fun t ht => ?_⟩
      have s5 := (new_sm g5 hp5).trans (Same.new (o := .tup [.str w, .int (c / 8 % 4 - if c / 32 % 9 = 0 then 1 else 0)]) ht)
      exact q _ t (pa + 1) (sx.trans (SamX.of s5)) (s5 _ _ fp) (by omega) (.tup upd_same (thc .str (thc .int th0)))
    · obtain ⟨r, rfl⟩ : ∃ r', r = r' + 1 := ⟨r - 1, by omega⟩
      obtain ⟨n', rfl⟩ : ∃ n', n = n' + 1 := ⟨n - 1, by omega⟩
      have p3 : 2 ^ (r + 1 + 1) = 2 * 2 ^ (r + 1) := by rw [Nat.pow_succ, Nat.mul_comm]
      have p4 := Nat.two_pow_pos (r + 1)
      have er : (((r + 1 : Nat) : Int) - 1) = ((r : Nat) : Int) := by omega
      rw [er]
      refine ⟨_, _, _, _, rfl, a, pp, ns, pa + 1, m, r, rfl, fun H' s' => SS H' (sx.trans s'), hl, rfl, fp, rfl, hm, rfl, by omega, by omega, fun G2 t2 pa2 sx2 fp2 hb2 T2 => ?_⟩
      (try walk_at "rd")
      (try rw [er])
      refine ⟨⟨by decide, by decide⟩, by omega, ?_⟩
      refine ⟨_, _, _, _, rfl, a, pp, ns, pa2, m, r, rfl, fun H' s' => SS H' (sx.trans (sx2.trans s')), hl, rfl, fp2, rfl, hm, rfl, by omega, by omega, fun G3 t3 pa3 sx3 fp3 hb3 T3 => ⟨small5 (by simp), fun t ht => ?_⟩⟩
      exact q _ t pa3 (sx.trans (sx2.trans (sx3.trans (SamX.of (Same.new ht))))) (Same.new ht _ _ fp3) (by omega) (.tup upd_same (thc .str (thc .int (thc ((T2.monoX fp2 fp3 sx3).mono (Same.new ht)) (thc (T3.mono (Same.new ht)) th0)))))
theorem z__law_grown {f : Addr} {fd : FuncData} (F : Fun K "_law_grown" "_law_grown" s__law_grown f fd) : FnOk P w K mg base CX0 (2 + 0) f fd ["_law_script", "_law_pen", "_law_many", "_law_room"] (spGr K 0) := by
  refine F.ok (k := 1) sc__law_grown (fun vs H Q E h => ?_) (fun cdv A outer s H vs Q E hr h => ?_)
  · obtain ⟨_, _, _, _, rfl, h⟩ := h
    exact absurd h id
  · obtain ⟨_, _, _, _, rfl, h⟩ := h
    exact absurd h id
abbrev s__law_first_in : Stmt := top 14
theorem sc__law_first_in : FnScope ["_law_family_here", "_law_taken", "_law_k"] ["_law_family_here", "_law_taken"] (defScope s__law_first_in) := ⟨rfl, rfl, rfl, by decide +kernel, rfl, by decide +kernel, by decide +kernel⟩
def spFI (K : PySem.W.Frag) : Sp := sp2 fun x y H Q => ∃ (p : Addr) (fs : List Nat) (a : Nat), x = .ref p ∧ H p = some (.lst (nV fs)) ∧ fs.length ≤ 1000 ∧ y = .int (a : Nat) ∧ (∀ j : Nat, j < fs.length → Q (.int (j : Nat)) H) ∧ Q .non H
set_option maxHeartbeats 4000000 in
theorem ok__law_first_in {f : Addr} {fd : FuncData} (F : Fun K "_law_first_in" "_law_first_in" s__law_first_in f fd) (T : Txt mg)  : FnOk P w K mg base CX0 1 f fd ["_law_family_here", "_law_taken"] (spFI K) := by
  have sc := sc__law_first_in
  refine F.ok sc__law_first_in (fun vs H Q E h => ?_) (fun cdv A outer s H vs Q E hr h => ?_)
  · obtain ⟨_, _, rfl, _⟩ := h
    rfl
  · obtain ⟨x0, x1, rfl, h⟩ := h
    refine ⟨_, (pss_cons (ps_for PassesOwn.never rfl (pi_range1 (by rfl) T.n_range (pa_cons (pe_callB (call_lenK (K := K) rfl) (by rfl) T.n_len PySem.boot_len (pa_cons (pv 0) pa_nil)) pa_nil)) (pg_name (i := 2) sc.nd rfl (Or.inl rfl)) (pss_one (ps_if (pt_cmpR (op_eqK (K := K) rfl hr.units0) (pe_op op_and (pe_ix (ix_K (K := K) rfl) (pv 0) (pv 2) (fun _ _ => rfl)) (pv 1)) (pe_ix (ix_K (K := K) rfl) (pv 0) (pv 2) (fun _ _ => rfl)) (nomark _)) (pss_one (ps_ret (pv 2))) pss_nil)))
      (pss_one (ps_ret pe_non))), ?_⟩
    refine rdg (σ' := [some x0, some x1, none]) rfl ?_
    obtain ⟨p, fs, a, rfl, f1, lf, rfl, q1, q2⟩ := h
    walk_at "rd"
    refine ⟨_, .inl (SqL.of f1), ?_⟩
    rw [nV_len]
    refine ⟨by omega, by omega, ?_⟩
    rw [Int.toNat_natCast]
    refine loopRn (fun i σ H3 => ∃ v, σ = [some (.ref p), some (.int (a : Nat)), v] ∧ H3 = H) ⟨none, rfl, rfl⟩ ?_ ?_
    · rintro i σ H3 hi ⟨v, rfl, rfl⟩ N hN
      (try walk_at "rd")
      have e := List.getElem?_eq_getElem hi
      refine ixX_l (SqL.of f1) (atI_n e) ?_
      rw [rI0_i, and_nat]
      refine ixX_l (SqL.of f1) (atI_n e) ?_
      rw [rEqX_i]
      exact ⟨_, rfl, ite_of (fun hc => q1 i hi) fun hc => hN _ _ ⟨_, rfl, rfl⟩⟩
    · rintro σ H3 ⟨v, rfl, rfl⟩
      (try walk_at "rd")
      exact q2
abbrev s__law_by_names : Stmt := top 15
theorem sc__law_by_names : FnScope ["_law_families", "_law_order_here", "_law_taken_in", "_law_taken_out", "_law_word", "_law_family_here", "_law_taken", "_law_k", "_law_bit", "_law_first"] ["_law_families", "_law_order_here", "_law_taken_in", "_law_taken_out"] (defScope s__law_by_names) := ⟨rfl, rfl, rfl, by decide +kernel, rfl, by decide +kernel, by decide +kernel⟩
def spBN (K : PySem.W.Frag) : Nat → Sp
  | 0 => fun vs H Q _ => ∃ x1 x2 x3 x4, vs = [x1, x2, x3, x4] ∧ False
  | n + 1 => fun vs H Q _ => ∃ x1 x2 x3 x4, vs = [x1, x2, x3, x4] ∧ ∃ (pf p1 p2 po : Addr) (fs gs o : List Nat) (m ti to : Nat), x1 = .ref pf ∧ H pf = some (.lst [.ref p1, .ref p2]) ∧ H p1 = some (.lst (nV fs)) ∧ fs.length ≤ 1000 ∧ H p2 = some (.lst (nV gs)) ∧ gs.length ≤ 1000 ∧ x2 = .ref po ∧ H po = some (.lst (nV o)) ∧ (∀ k ∈ o, k < m) ∧ m ≤ 8 ∧ o.length ≤ n ∧ o.length ≤ 8 ∧ x3 = .int ti ∧ x4 = .int to ∧ ∀ H' t p, Same H H' → Rep H' p t → hgt p ≤ o.length + 1 → bnd 1000 p → Q (.ref t) H'
theorem refs2_get {α : Type} {a b x : α} {i : Nat} (h : [a, b][i]? = some x) : (i = 0 ∧ x = a) ∨ (i = 1 ∧ x = b) := by
  match i with
  | 0 => cases h; exact .inl ⟨rfl, rfl⟩
  | 1 => cases h; exact .inr ⟨rfl, rfl⟩
  | i + 2 => cases h
set_option maxHeartbeats 4000000 in
theorem ok__law_by_names {f : Addr} {fd : FuncData} (F : Fun K "_law_by_names" "_law_by_names" s__law_by_names f fd) (T : Txt mg) {f__law_first_in : Addr} {fd__law_first_in : FuncData} (C__law_first_in : Cal P w K mg base "_law_first_in" 1 ["_law_family_here", "_law_taken"] (spFI K) f__law_first_in fd__law_first_in) (n : Nat) (C__law_by_names : Cal P w K mg base "_law_by_names" (2 + n) ["_law_families", "_law_order_here", "_law_taken_in", "_law_taken_out"] (spBN K n) f fd) : FnOk P w K mg base CX0 (2 + n + 1) f fd ["_law_families", "_law_order_here", "_law_taken_in", "_law_taken_out"] (spBN K (n + 1)) := by
  have sc := sc__law_by_names
  refine F.ok sc__law_by_names (fun vs H Q E h => ?_) (fun cdv A outer s H vs Q E hr h => ?_)
  · obtain ⟨_, _, _, _, rfl, _⟩ := h
    rfl
  · obtain ⟨x0, x1, x2, x3, rfl, h⟩ := h
    refine ⟨_, (pss_cons (ps_for PassesOwn.never rfl (pi_list (pe_lst (pa_cons (pe_tup (pa_cons pe_str (pa_cons (pe_ix (ix_K (K := K) rfl) (pv 0) pe_int (fun _ _ => rfl)) (pa_cons (pv 2) pa_nil)))) (pa_cons (pe_tup (pa_cons pe_str (pa_cons (pe_ix (ix_K (K := K) rfl) (pv 0) pe_int (fun _ _ => rfl)) (pa_cons (pv 3) pa_nil)))) pa_nil)))) (pg_tup (n := 3) rfl (pgs_cons (pg_name (i := 4) sc.nd rfl (Or.inl rfl)) (pgs_cons (pg_name (i := 5) sc.nd rfl (Or.inl rfl)) (pgs_cons (pg_name (i := 6) sc.nd rfl (Or.inl rfl)) pgs_nil)))) (pss_cons (ps_set (i := 7) sc.nd rfl (Or.inl rfl) (pe_cal C__law_first_in hr (by omega) (by rfl) (pa_cons (pv 5) (pa_cons (pv 6) pa_nil))))
      (pss_one (ps_if (pt_cmpR op_isnotP (pv 7) pe_non (nomark _)) (pss_one (ps_ret (pe_tup (pa_cons (pv 4) (pa_cons (pv 7) pa_nil))))) pss_nil))))
      (pss_cons (ps_if (pt_cmpR (op_eqK (K := K) rfl hr.units0) (pv 1) (pe_lst pa_nil) (nomark _)) (pss_one (ps_ret (pe_tup (pa_cons pe_str (pa_cons pe_int pa_nil))))) pss_nil)
      (pss_cons (ps_set (i := 8) sc.nd rfl (Or.inl rfl) (pe_op op_shl pe_int (pe_ix (ix_K (K := K) rfl) (pv 1) pe_int (fun _ _ => rfl))))
      (pss_cons (ps_set (i := 9) sc.nd rfl (Or.inl rfl) (pe_cal C__law_by_names hr (by omega) (by rfl) (pa_cons (pv 0) (pa_cons (pe_slice (sl_K (K := K) rfl) (pv 1) (po_some pe_int) po_none) (pa_cons (pe_op op_or (pv 2) (pv 8)) (pa_cons (pv 3) pa_nil))))))
      (pss_one (ps_ret (pe_tup (pa_cons pe_str (pa_cons (pe_ix (ix_K (K := K) rfl) (pv 1) pe_int (fun _ _ => rfl)) (pa_cons (pv 9) (pa_cons (pe_cal C__law_by_names hr (by omega) (by rfl) (pa_cons (pv 0) (pa_cons (pe_slice (sl_K (K := K) rfl) (pv 1) (po_some pe_int) po_none) (pa_cons (pv 2) (pa_cons (pe_op op_or (pv 3) (pv 8)) pa_nil))))) pa_nil))))))))))), ?_⟩
    refine rdg (σ' := [some x0, some x1, some x2, some x3, none, none, none, none, none, none]) rfl ?_
    obtain ⟨pf, p1, p2, po, fs, gs, o, m, ti, to, rfl, f0, f1, l1, f2, l2, rfl, fo, hlt, hm, hn, h8, rfl, rfl, q⟩ := h
    walk_at "rd"
    have fo0 := fo
    refine ixX_l (SqL.of f0) rfl ⟨small5 (by simp), fun t1 ht1 => ?_⟩
    generalize gG1 : upd H t1 _ = G1
    have a1 := new_at gG1
    have f0 := new_sm gG1 ht1 _ _ f0
    have f1 := new_sm gG1 ht1 _ _ f1
    have f2 := new_sm gG1 ht1 _ _ f2
    have fo := new_sm gG1 ht1 _ _ fo
    refine ixX_l (SqL.of f0) rfl ⟨small5 (by simp), fun t2 ht2 => ?_⟩
    generalize gG2 : upd G1 t2 _ = G2
    have a2 := new_at gG2
    have f0 := new_sm gG2 ht2 _ _ f0
    have f1 := new_sm gG2 ht2 _ _ f1
    have f2 := new_sm gG2 ht2 _ _ f2
    have fo := new_sm gG2 ht2 _ _ fo
    have a1 := new_sm gG2 ht2 _ _ a1
    refine ⟨small5 (by simp), fun pl hpl => ?_⟩
    generalize gG3 : upd G2 pl _ = G3
    have al := new_at gG3
    have f0 := new_sm gG3 hpl _ _ f0
    have f1 := new_sm gG3 hpl _ _ f1
    have f2 := new_sm gG3 hpl _ _ f2
    have fo := new_sm gG3 hpl _ _ fo
    have a1 := new_sm gG3 hpl _ _ a1
    have a2 := new_sm gG3 hpl _ _ a2
    have s3 := ((new_sm gG1 ht1).trans (new_sm gG2 ht2)).trans (new_sm gG3 hpl)
    refine ⟨⟨_, SqL.of al⟩, loopLn (xs := [V.ref t1, V.ref t2]) (fun i σ H4 => ∃ v1 v2 v3 v4, σ = [some (.ref pf), some (.ref po), some (.int ti), some (.int to), v1, v2, v3, v4, none, none] ∧ Same G3 H4) ⟨none, none, none, none, rfl, Same.refl _⟩ (fun i σ H4 _ ⟨_, _, _, _, _, e⟩ => SqL.of (e _ _ al)) ?_ ?_⟩
    · rintro i x σ H4 hx ⟨v1, v2, v3, v4, rfl, s4⟩ N hN
      obtain ⟨tt, o', r, L, c, rfl, att, aq, lL⟩ : ∃ (tt : Addr) (o' : Bool) (r : Addr) (L : List Nat) (c : Nat), x = .ref tt ∧ H4 tt = some (.tup [.str (wd o'), .ref r, .int (c : Nat)]) ∧ H4 r = some (.lst (nV L)) ∧ L.length ≤ 1000 := by
        rcases refs2_get hx with ⟨_, rfl⟩ | ⟨_, rfl⟩
        · exact ⟨t1, false, p1, fs, ti, rfl, s4 _ _ a1, s4 _ _ f1, l1⟩
        · exact ⟨t2, true, p2, gs, to, rfl, s4 _ _ a2, s4 _ _ f2, l2⟩
      (try walk_at "rd")
      refine ⟨_, SqT.of att, rfl, _, _, rfl, _, _, rfl, _, _, rfl, rfl, ?_⟩
      (try walk_at "rd")
      refine ⟨_, _, rfl, r, L, c, rfl, aq, lL, rfl, fun j hj => ?_, ?_⟩
      · (try walk_at "rd")
        refine ⟨rfl, true, by simp, iteT ⟨small5 (by simp), fun t ht => ?_⟩⟩
        exact q _ t (.leaf o' _) ((s3.trans s4).trans (Same.new ht)) (.leaf upd_same) (by simp [hgt]) (show _ ≤ 1000 by omega)
      · (try walk_at "rd")
        exact ⟨rfl, false, by simp, iteF (hN _ _ ⟨_, _, _, _, rfl, s4⟩)⟩
    · rintro σ H4 ⟨v1, v2, v3, v4, rfl, s4⟩
      have s34 := s3.trans s4
      have f0 := s4 _ _ f0
      have f1 := s4 _ _ f1
      have f2 := s4 _ _ f2
      have fo := s4 _ _ fo
      (try walk_at "rd")
      refine ⟨small5 (by simp), fun p6 hp6 => ?_⟩
      generalize g6 : upd H4 p6 _ = G6
      have a6 := new_at g6
      have s6 := s34.trans (new_sm g6 hp6)
      have f0 := new_sm g6 hp6 _ _ f0
      have f1 := new_sm g6 hp6 _ _ f1
      have f2 := new_sm g6 hp6 _ _ f2
      have fo := new_sm g6 hp6 _ _ fo
      refine eqX_l (SqL.of fo) (SqL.of a6) (flat_n _) rfl ?_
      rw [eqVs_nil]
      cases o with
      | nil =>
        refine ⟨true, rfl, iteT ⟨small5 (by simp), fun t ht => ?_⟩⟩
        exact q _ t (.leaf false 0) (s6.trans (Same.new ht)) (.leaf upd_same) (by simp [hgt]) (show _ ≤ 1000 by omega)
      | cons k0 o =>
        have hk0 := hlt k0 List.mem_cons_self
        have ho : ∀ k ∈ o, k < m := fun k hk => hlt k (List.mem_cons_of_mem _ hk)
        have ln : o.length + 1 ≤ n := hn
        have l8 : o.length + 1 ≤ 8 := h8
        obtain ⟨n', rfl⟩ : ∃ n', n = n' + 1 := ⟨n - 1, by omega⟩
        have e0 : atI (nV (k0 :: o)) ((0 : Nat) : Int) = some (.int (k0 : Nat)) := atI_n rfl
        refine ⟨false, rfl, iteF (ixX_l (SqL.of fo) e0 ?_)⟩
        (try walk_at "rd")
        rw [shl_one]
        refine ⟨cpow_of (by omega) (by omega) (by decide) (by decide), po, _, rfl, SqL.of fo, fun p7 hp7 => ?_⟩
        have ed : cutV (nV (k0 :: o)) (some 1) none = nV o := cut_drop (nV (k0 :: o)) 1
        rw [ed, or_nat]
        generalize g7 : upd G6 p7 _ = G7
        have a7 := new_at g7
        have s7 := s6.trans (new_sm g7 hp7)
        have f0 := new_sm g7 hp7 _ _ f0
        have f1 := new_sm g7 hp7 _ _ f1
        have f2 := new_sm g7 hp7 _ _ f2
        have fo := new_sm g7 hp7 _ _ fo
        refine ⟨_, _, _, _, rfl, pf, p1, p2, p7, fs, gs, o, m, ti ||| 2 ^ k0, to, rfl, f0, f1, l1, f2, l2, rfl, a7, ho, hm, by omega, by omega, rfl, rfl, fun G8 t8 P8 s8 R8 h8' n8 => ?_⟩
        have f0 := s8 _ _ f0
        have f1 := s8 _ _ f1
        have f2 := s8 _ _ f2
        have fo := s8 _ _ fo
        (try walk_at "rd")
        refine ixX_l (SqL.of fo) e0 ⟨po, _, rfl, SqL.of fo, fun p9 hp9 => ?_⟩
        rw [ed]
        (try rw [or_nat])
        generalize g9 : upd G8 p9 _ = G9
        have a9 := new_at g9
        have s9 := (s7.trans s8).trans (new_sm g9 hp9)
        have f0 := new_sm g9 hp9 _ _ f0
        have f1 := new_sm g9 hp9 _ _ f1
        have f2 := new_sm g9 hp9 _ _ f2
        have fo := new_sm g9 hp9 _ _ fo
        refine ⟨_, _, _, _, rfl, pf, p1, p2, p9, fs, gs, o, m, ti, to ||| 2 ^ k0, rfl, f0, f1, l1, f2, l2, rfl, a9, ho, hm, by omega, by omega, rfl, rfl, fun G10 t10 P10 s10 R10 h10 n10 => ⟨small5 (by simp), fun t ht => ?_⟩⟩
        refine q _ t (.name k0 P8 P10) ((s9.trans s10).trans (Same.new ht)) (.name upd_same (((R8.mono (new_sm g9 hp9)).mono s10).mono (Same.new ht)) (R10.mono (Same.new ht))) (by simp only [hgt, List.length_cons]; omega) ⟨by omega, n8, n10⟩
theorem z__law_by_names {f : Addr} {fd : FuncData} (F : Fun K "_law_by_names" "_law_by_names" s__law_by_names f fd) : FnOk P w K mg base CX0 (2 + 0) f fd ["_law_families", "_law_order_here", "_law_taken_in", "_law_taken_out"] (spBN K 0) := by
  refine F.ok (k := 1) sc__law_by_names (fun vs H Q E h => ?_) (fun cdv A outer s H vs Q E hr h => ?_)
  · obtain ⟨_, _, _, _, rfl, h⟩ := h
    exact absurd h id
  · obtain ⟨_, _, _, _, rfl, h⟩ := h
    exact absurd h id
abbrev s__law_order : Stmt := top 16
theorem sc__law_order : FnScope ["_law_script", "_law_many", "_law_order_here", "_law_k"] ["_law_script", "_law_many"] (defScope s__law_order) := ⟨rfl, rfl, rfl, by decide +kernel, rfl, by decide +kernel, by decide +kernel⟩
def spOrd (K : PySem.W.Frag) : Sp := sp2 fun x z H Q => ∃ (a : Addr) (ns : List Int) (m : Nat), x = .ref a ∧ SqL K H a (ns.map V.int) ∧ ns.length ≤ 63 ∧ z = .int m ∧ m ≤ 8 ∧ ∀ (p' : Addr) (o : List Nat) (H' : Hp), H p' = none → Same H H' → H' p' = some (.lst (nV o)) → Fam.Ord m o → Q (.ref p') H'
theorem ord_of {m : Nat} {o : List Nat} (h : o.Perm (List.range m)) : Fam.Ord m o := ⟨by rw [h.length_eq]; simp, fun x hx => List.mem_range.mp (h.mem_iff.mp hx), h.nodup_iff.mpr List.nodup_range⟩
theorem ins_perm {L R : List Nat} (i b : Nat) (h : L.Perm R) : (L.take i ++ b :: L.drop i).Perm (R ++ [b]) := by
  have h1 : (L.take i ++ b :: L.drop i).Perm (b :: L) := by
    have := List.perm_middle (a := b) (l₁ := L.take i) (l₂ := L.drop i)
    rwa [List.take_append_drop] at this
  exact h1.trans ((h.cons b).trans (List.perm_append_singleton b R).symm)
theorem nV_ins (L : List Nat) (i b : Nat) : (nV L).take i ++ V.int (b : Nat) :: (nV L).drop i = nV (L.take i ++ b :: L.drop i) := by
  rw [nV, nI, nV, nI, List.map_append, List.map_append, List.map_cons, List.map_cons, ← List.map_take, ← List.map_take, ← List.map_drop, ← List.map_drop]
set_option maxHeartbeats 4000000 in
theorem ok__law_order {f : Addr} {fd : FuncData} (F : Fun K "_law_order" "_law_order" s__law_order f fd) (T : Txt mg) {f__law_at : Addr} {fd__law_at : FuncData} (C__law_at : Cal P w K mg base "_law_at" 1 ["_law_script", "_law_k"] (spCell K) f__law_at fd__law_at) : FnOk P w K mg base CX0 2 f fd ["_law_script", "_law_many"] (spOrd K) := by
  have sc := sc__law_order
  refine F.ok sc__law_order (fun vs H Q E h => ?_) (fun cdv A outer s H vs Q E hr h => ?_)
  · obtain ⟨_, _, rfl, _⟩ := h
    rfl
  · obtain ⟨x0, x1, rfl, h⟩ := h
    refine ⟨_, (pss_cons (ps_set (i := 2) sc.nd rfl (Or.inl rfl) (pe_lst pa_nil))
      (pss_cons (ps_for PassesOwn.never rfl (pi_range1 (by rfl) T.n_range (pa_cons (pv 1) pa_nil)) (pg_name (i := 3) sc.nd rfl (Or.inl rfl)) (pss_one (ps_expr (pe_bm PySem.F.plainAttrs_list PySem.F.slot_list_insert PySem.F.type_list_insert mt_insert (pv 2) (pa_cons (pe_op op_mod (pe_cal C__law_at hr (by decide) (by rfl) (pa_cons (pv 0) (pa_cons (pe_op op_add pe_int (pv 3)) pa_nil))) (pe_op op_add (pe_callB (call_lenK (K := K) rfl) (by rfl) T.n_len PySem.boot_len (pa_cons (pv 2) pa_nil)) pe_int)) (pa_cons (pv 3) pa_nil))))))
      (pss_one (ps_ret (pv 2))))), ?_⟩
    refine rdg (σ' := [some x0, some x1, none, none]) rfl ?_
    obtain ⟨a, ns, m, rfl, hS, hl, rfl, hm, q⟩ := h
    walk_at "rd"
    refine ⟨small5 (by simp), fun p0 hp0 => ⟨by omega, by omega, ?_⟩⟩
    generalize g0 : upd H p0 _ = G0
    have a0 := new_at g0
    have t0 := new_sm g0 hp0
    rw [Int.toNat_natCast]
    refine loopRn (fun i σ H3 => ∃ (v : Option V) (L : List Nat), σ = [some (.ref a), some (.int m), some (.ref p0), v] ∧ Same H H3 ∧ H3 p0 = some (.lst (nV L)) ∧ L.Perm (List.range i)) ⟨none, [], rfl, t0, a0, List.Perm.refl _⟩ ?_ ?_
    · rintro i σ H3 hi ⟨v, L, rfl, s3, b0, hp⟩ N hN
      have lL : L.length = i := by rw [hp.length_eq]; simp
      (try walk_at "rd")
      refine ⟨tyV_list b0, _, _, rfl, a, ns, 20 + i, rfl, s3.seq hS, hl, by simp, by omega, fun c => ?_⟩
      (try walk_at "rd")
      refine ⟨_, .inl (SqL.of b0), ?_⟩
      rw [nV_len]
      obtain ⟨j, ej⟩ := Int.eq_ofNat_of_zero_le (Int.emod_nonneg c (show (L.length : Int) + 1 ≠ 0 by omega))
      have wj := Int.emod_lt_of_pos c (show (0 : Int) < (L.length : Int) + 1 by omega)
      rw [ej] at wj ⊢
      refine ⟨by omega, p0, _, _, j, _, rfl, rfl, rfl, b0, by rw [nV_len]; omega, by rw [nV_len]; omega, ?_⟩
      rw [nV_ins]
      refine hN _ _ ⟨_, _, rfl, s3.upd hp0, upd_same, ?_⟩
      rw [List.range_succ]
      exact ins_perm j i hp
    · rintro σ H3 ⟨v, L, rfl, s3, b0, hp⟩
      (try walk_at "rd")
      exact q p0 L _ hp0 s3 b0 (ord_of hp)
abbrev s__law_odd : Stmt := top 17
theorem sc__law_odd : FnScope ["_law_paper", "_law_cell", "_law_some"] ["_law_paper", "_law_cell"] (defScope s__law_odd) := ⟨rfl, rfl, rfl, by decide +kernel, rfl, by decide +kernel, by decide +kernel⟩
section
variable {X : Cx} {e : Expr} {es : List Expr} {te : TE} {t : TA}
theorem pa_bin {a o b p} (h : e = .BinOp a o b p) (ha : PE X (.BinOp a o b p) te) (hr : PA X es t) : PA X (e :: es) (tCons te t) := by
  subst h
  exact pa_cons ha hr
theorem pa_con {v j p} (h : e = .Constant v j p) (ha : PE X (.Constant v j p) te) (hr : PA X es t) : PA X (e :: es) (tCons te t) := by
  subst h
  exact pa_cons ha hr
theorem pa_cll {f as ks p} (h : e = .Call f as ks p) (ha : PE X (.Call f as ks p) te) (hr : PA X es t) : PA X (e :: es) (tCons te t) := by
  subst h
  exact pa_cons ha hr
theorem pa_sbs {v s p} (h : e = .Subscript v s p) (ha : PE X (.Subscript v s p) te) (hr : PA X es t) : PA X (e :: es) (tCons te t) := by
  subst h
  exact pa_cons ha hr
theorem pa_tpl {xs k p} (h : e = .Tuple xs k p) (ha : PE X (.Tuple xs k p) te) (hr : PA X es t) : PA X (e :: es) (tCons te t) := by
  subst h
  exact pa_cons ha hr
end
theorem apTest {t : TT} {σ : L2.St} {H : Hp} {R : Bool → Hp → Prop} {b : Bool} (h : ∀ R' : Bool → Hp → Prop, R' b H → t σ H R') (r : R b H) : t σ H R := h R r
theorem pick_any {K : PySem.W.Frag} {H : Hp} {p : Addr} {xs : List V} {c : Int} {n : Nat} {Q : VK} (h : H p = some (.lst xs)) (h0 : xs ≠ []) (hT : ∀ x ∈ xs, Thg H n x) (q : ∀ x, Thg H n x → Q x H) : ∃ x, (SqL K H p x ∨ SqT K H p x) ∧ (0 : Int) < (x.length : Nat) ∧ rIxX K (.ref p) (.int (c % (x.length : Nat))) H Q := by
  have l0 : 0 < xs.length := List.length_pos_iff.mpr h0
  refine ⟨xs, .inl (SqL.of h), by omega, ?_⟩
  obtain ⟨j, ej⟩ := Int.eq_ofNat_of_zero_le (Int.emod_nonneg c (show (xs.length : Int) ≠ 0 by omega))
  have wj := Int.emod_lt_of_pos c (show (0 : Int) < (xs.length : Int) by omega)
  rw [ej] at wj ⊢
  have hj : j < xs.length := by omega
  exact ixX_l (SqL.of h) (atI_nat (List.getElem?_eq_getElem hj)) (q _ (hT _ (List.getElem_mem hj)))
theorem log_small {k : Nat} (h : k ≤ 1000) : ((k : Nat) : Int).natAbs.log2 < 1920 := by
  rw [Int.natAbs_natCast]
  exact Nat.lt_of_le_of_lt (Nat.log2_le_self k) (by omega)
theorem lst_all {G : Hp} {p : Addr} {xs : List V} {n : Nat} (a : G p = some (.lst xs)) (h : ∀ x ∈ xs, Thg G n x) : ∀ x ∈ xs, Thg G n x := h
def spOdd (K : PySem.W.Frag) : Sp := sp2 fun x y H Q => ∃ (t : Addr) (P : Tre) (c : Int), x = .ref t ∧ Rep H P t ∧ bnd 1000 P ∧ y = .int c ∧ ∀ (v : V) (H' : Hp), Same H H' → Thg H' (hgt P + 1) v → Q v H'
set_option maxHeartbeats 4000000 in
theorem ok__law_odd {f : Addr} {fd : FuncData} (F : Fun K "_law_odd" "_law_odd" s__law_odd f fd) (T : Txt mg)  : FnOk P w K mg base CX0 1 f fd ["_law_paper", "_law_cell"] (spOdd K) := by
  have sc := sc__law_odd
  refine F.ok sc__law_odd (fun vs H Q E h => ?_) (fun cdv A outer s H vs Q E hr h => ?_)
  · obtain ⟨_, _, rfl, _⟩ := h
    rfl
  · obtain ⟨x0, x1, rfl, h⟩ := h
    obtain ⟨e0, e1, e2, e3, e4, e5, e6, e7, e8, q0, p1, p0, hB, ⟨_, _, _, h0⟩, ⟨_, _, h1⟩, ⟨_, _, h2⟩, ⟨_, _, h3⟩, ⟨_, _, _, _, _, _, h4⟩, ⟨_, _, _, _, _, _, h5⟩, ⟨_, _, h6⟩, ⟨_, _, _, _, _, _, _, _, _, _, h7⟩, ⟨_, _, _, _, _, _, _, _, _, _, h8⟩⟩ : ∃ e0 e1 e2 e3 e4 e5 e6 e7 e8 q0 p1 p0, defBody s__law_odd = .Assign [.Name "_law_some" q0] (.List [e0, e1, e2, e3, e4, e5, e6, e7, e8] p1) p0 :: (defBody s__law_odd).tail ∧ (∃ u0 u1 u2, e0 = .Call (.Name "list" u0) [.Name "_law_paper" u1] [] u2) ∧ (∃ i0 u1, e1 = .Constant (.bool true) i0 u1) ∧ (∃ i0 u1, e2 = .Constant .none i0 u1) ∧ (∃ i0 u1, e3 = .Constant (.str "one") i0 u1) ∧ (∃ u0 i1 u2 i3 u4 u5, e4 = .BinOp (.Name "_law_paper" u0) .Add (.Tuple [.Constant (.int 0) i1 u2] i3 u4) u5) ∧ (∃ u0 i1 u2 u3 u4 u5, e5 = .Subscript (.Name "_law_paper" u0) (.Slice none (some (.UnaryOp .USub (.Constant (.int 1) i1 u2) u3)) none u4) u5) ∧ (∃ i0 u1, e6 = .Tuple [] i0 u1) ∧ (∃ i0 u1 i2 u3 u4 i5 u6 u7 u8 u9, e7 = .BinOp (.Tuple [.Constant (.str "One") i0 u1] i2 u3) .Add (.Subscript (.Name "_law_paper" u4) (.Slice (some (.Constant (.int 1) i5 u6)) none none u7) u8) u9) ∧ (∃ i0 u1 i2 u3 u4 i5 u6 u7 u8 u9, e8 = .BinOp (.Tuple [.Constant (.str "both") i0 u1] i2 u3) .Add (.Subscript (.Name "_law_paper" u4) (.Slice (some (.Constant (.int 1) i5 u6)) none none u7) u8) u9) := ⟨_, _, _, _, _, _, _, _, _, _, _, _, rfl, ⟨_, _, _, rfl⟩, ⟨_, _, rfl⟩, ⟨_, _, rfl⟩, ⟨_, _, rfl⟩, ⟨_, _, _, _, _, _, rfl⟩, ⟨_, _, _, _, _, _, rfl⟩, ⟨_, _, rfl⟩, ⟨_, _, _, _, _, _, _, _, _, _, rfl⟩, ⟨_, _, _, _, _, _, _, _, _, _, rfl⟩⟩
    rw [hB]
    refine ⟨_, (pss_cons (ps_set (i := 2) sc.nd rfl (Or.inl rfl) (pe_lst (pa_cll h0 (pe_callTy call_list_of (by rfl) T.n_list PyProof.Rows.boot_list (pa_cons (pv 0) pa_nil)) (pa_con h1 pe_bl (pa_con h2 pe_non (pa_con h3 pe_str (pa_bin h4 (pe_op op_catT (pv 0) (pe_tup (pa_cons pe_int pa_nil))) (pa_sbs h5 (pe_slice (sl_tupK (K := K) rfl) (pv 0) po_none (po_some (pe_un un_neg pe_int))) (pa_tpl h6 (pe_tup pa_nil) (pa_bin h7 (pe_op op_catT (pe_tup (pa_cons pe_str pa_nil)) (pe_slice (sl_tupK (K := K) rfl) (pv 0) (po_some pe_int) po_none)) (pa_bin h8 (pe_op op_catT (pe_tup (pa_cons pe_str pa_nil)) (pe_slice (sl_tupK (K := K) rfl) (pv 0) (po_some pe_int) po_none)) pa_nil)))))))))))
      (pss_cons (ps_set (i := 2) sc.nd rfl (Or.inl rfl) (pe_op (op_catK (K := K) rfl) (pv 2) (pe_lst (pa_cons (pe_op op_catT (pe_tup (pa_cons (pe_ix (ix_K (K := K) rfl) (pv 0) pe_int (fun _ _ => rfl)) (pa_cons pe_bl pa_nil))) (pe_slice (sl_tupK (K := K) rfl) (pv 0) (po_some pe_int) po_none)) (pa_cons (pe_op op_catT (pe_tup (pa_cons (pe_ix (ix_K (K := K) rfl) (pv 0) pe_int (fun _ _ => rfl)) (pa_cons pe_non pa_nil))) (pe_slice (sl_tupK (K := K) rfl) (pv 0) (po_some pe_int) po_none)) (pa_cons (pe_op op_catT (pe_tup (pa_cons (pe_ix (ix_K (K := K) rfl) (pv 0) pe_int (fun _ _ => rfl)) (pa_cons (pe_callTy call_str_int (by rfl) T.n_str PyProof.Rows.boot_str (pa_cons (pe_ix (ix_K (K := K) rfl) (pv 0) pe_int (fun _ _ => rfl)) pa_nil)) pa_nil))) (pe_slice (sl_tupK (K := K) rfl) (pv 0) (po_some pe_int) po_none)) pa_nil))))))
      (pss_cons (ps_set (i := 2) sc.nd rfl (Or.inl rfl) (pe_op (op_catK (K := K) rfl) (pv 2) (pe_lst (pa_cons (pe_op op_catT (pe_tup (pa_cons (pe_ix (ix_K (K := K) rfl) (pv 0) pe_int (fun _ _ => rfl)) (pa_cons (pe_op op_add (pe_ix (ix_K (K := K) rfl) (pv 0) pe_int (fun _ _ => rfl)) pe_int) pa_nil))) (pe_slice (sl_tupK (K := K) rfl) (pv 0) (po_some pe_int) po_none)) (pa_cons (pe_op op_catT (pe_tup (pa_cons (pe_ix (ix_K (K := K) rfl) (pv 0) pe_int (fun _ _ => rfl)) (pa_cons (pe_un un_neg pe_int) pa_nil))) (pe_slice (sl_tupK (K := K) rfl) (pv 0) (po_some pe_int) po_none)) (pa_cons (pe_op op_catT (pe_tup (pa_cons (pe_ix (ix_K (K := K) rfl) (pv 0) pe_int (fun _ _ => rfl)) (pa_cons (pe_op op_pow pe_int pe_int) pa_nil))) (pe_slice (sl_tupK (K := K) rfl) (pv 0) (po_some pe_int) po_none)) pa_nil))))))
      (pss_cons (ps_set (i := 2) sc.nd rfl (Or.inl rfl) (pe_op (op_catK (K := K) rfl) (pv 2) (pe_lst (pa_cons (pe_disp (pps_cons pe_str pe_int pps_nil) rfl rfl (by simp) (by decide)) (pa_cons (pe_op op_catT (pe_tup (pa_cons (pe_lst (pa_cons pe_str pa_nil)) pa_nil)) (pe_slice (sl_tupK (K := K) rfl) (pv 0) (po_some pe_int) po_none)) (pa_cons (pe_tup (pa_cons pe_str (pa_cons pe_int pa_nil))) (pa_cons (pe_tup (pa_cons pe_str (pa_cons pe_int pa_nil))) (pa_cons (pe_tup (pa_cons (pv 0) pa_nil)) pa_nil))))))))
      (pss_cons (ps_if (pt_cmpR (op_eqK (K := K) rfl hr.units0) (pe_callB (call_lenK (K := K) rfl) (by rfl) T.n_len PySem.boot_len (pa_cons (pv 0) pa_nil)) pe_int (nomark _)) (pss_cons (ps_set (i := 2) sc.nd rfl (Or.inl rfl) (pe_op (op_catK (K := K) rfl) (pv 2) (pe_lst (pa_cons (pe_tup (pa_cons (pe_ix (ix_K (K := K) rfl) (pv 0) pe_int (fun _ _ => rfl)) (pa_cons (pe_ix (ix_K (K := K) rfl) (pv 0) pe_int (fun _ _ => rfl)) (pa_cons (pe_ix (ix_K (K := K) rfl) (pv 0) pe_int (fun _ _ => rfl)) (pa_cons (pe_ix (ix_K (K := K) rfl) (pv 0) pe_int (fun _ _ => rfl)) pa_nil))))) (pa_cons (pe_ix (ix_K (K := K) rfl) (pv 0) pe_int (fun _ _ => rfl)) (pa_cons (pe_op op_catT (pe_slice (sl_tupK (K := K) rfl) (pv 0) po_none (po_some pe_int)) (pe_tup (pa_cons (pe_ix (ix_K (K := K) rfl) (pv 0) pe_int (fun _ _ => rfl)) (pa_cons (pe_ix (ix_K (K := K) rfl) (pv 0) pe_int (fun _ _ => rfl)) pa_nil)))) pa_nil))))))
      (pss_one (ps_expr (pe_bm PySem.F.plainAttrs_list PySem.F.slot_list_append PySem.F.type_list_append mt_append (pv 2) (pa_cons (pe_op op_catT (pe_slice (sl_tupK (K := K) rfl) (pv 0) po_none (po_some pe_int)) (pe_tup (pa_cons (pe_ix (ix_K (K := K) rfl) (pv 0) pe_int (fun _ _ => rfl)) pa_nil))) pa_nil))))) pss_nil)
      (pss_one (ps_ret (pe_ix (ix_K (K := K) rfl) (pv 2) (pe_op op_mod (pv 1) (pe_callB (call_lenK (K := K) rfl) (by rfl) T.n_len PySem.boot_len (pa_cons (pv 2) pa_nil))) (fun _ _ => rfl))))))))), ?_⟩
    refine rdg (σ' := [some x0, some x1, none]) rfl ?_
    obtain ⟨t, P, c, rfl, hR, hB, rfl, q⟩ := h
    walk_at "rd"
    have s0 : Same H H := Same.refl _
    have tp : Thg H (hgt P) (.ref t) := hR.thg
    generalize hN : hgt P = N at tp q
    cases hR with
    | @leaf _ oo k at1 =>
      have hk : k ≤ 1000 := hB
      refine ⟨_, .inr (SqT.of at1), fun p1 hp1 => ?_⟩
      generalize g1 : upd H p1 _ = G1
      have a1 := new_at g1
      have sm1 := new_sm g1 hp1
      have at1 := sm1 _ _ at1
      have tp := tp.mono sm1
      have s0 := s0.trans sm1
      refine ⟨small5 (by simp), fun p2 hp2 => ?_⟩
      generalize g2 : upd G1 p2 _ = G2
      have a2 := new_at g2
      have sm2 := new_sm g2 hp2
      have at1 := sm2 _ _ at1
      have a1 := sm2 _ _ a1
      have tp := tp.mono sm2
      have s0 := s0.trans sm2
      refine cat_any at1 a2 (by simp) (by simp) fun p3 G3 sm3 a3 => ?_
      have at1 := sm3 _ _ at1
      have a1 := sm3 _ _ a1
      have a2 := sm3 _ _ a2
      have tp := tp.mono sm3
      have s0 := s0.trans sm3
      have T3 : Thg G3 (N + 1) (.ref p3) := .tup a3 (tha (thc .str (thc .int th0)) (thc .int th0))
      refine ⟨t, _, rfl, SqT.of at1, (by show ¬ (HT.sIx 2 0 none = 0 ∧ HT.sIx 2 2 (some (-1)) = 2); decide), fun p4 hp4 => ?_⟩
      have e4 : cutV [V.str (wd oo), .int (k : Nat)] none (some (-1)) = [V.str (wd oo)] := rfl
      rw [e4]
      generalize g4 : upd G3 p4 _ = G4
      have a4 := new_at g4
      have sm4 := new_sm g4 hp4
      have at1 := sm4 _ _ at1
      have a1 := sm4 _ _ a1
      have a2 := sm4 _ _ a2
      have a3 := sm4 _ _ a3
      have tp := tp.mono sm4
      have T3 := T3.mono sm4
      have s0 := s0.trans sm4
      have T4 : Thg G4 (N + 1) (.ref p4) := .tup a4 (thc .str th0)
      refine ⟨small5 (by simp), fun p5 hp5 => ?_⟩
      generalize g5 : upd G4 p5 _ = G5
      have a5 := new_at g5
      have sm5 := new_sm g5 hp5
      have at1 := sm5 _ _ at1
      have a1 := sm5 _ _ a1
      have a2 := sm5 _ _ a2
      have a3 := sm5 _ _ a3
      have a4 := sm5 _ _ a4
      have tp := tp.mono sm5
      have T3 := T3.mono sm5
      have T4 := T4.mono sm5
      have s0 := s0.trans sm5
      have T5 : Thg G5 (N + 1) (.ref p5) := .tup a5 th0
      refine ⟨small5 (by simp), fun p6 hp6 => ?_⟩
      generalize g6 : upd G5 p6 _ = G6
      have a6 := new_at g6
      have sm6 := new_sm g6 hp6
      have at1 := sm6 _ _ at1
      have a1 := sm6 _ _ a1
      have a2 := sm6 _ _ a2
      have a3 := sm6 _ _ a3
      have a4 := sm6 _ _ a4
      have a5 := sm6 _ _ a5
      have tp := tp.mono sm6
      have T3 := T3.mono sm6
      have T4 := T4.mono sm6
      have T5 := T5.mono sm6
      have s0 := s0.trans sm6
      refine ⟨t, _, rfl, SqT.of at1, (by show ¬ (HT.sIx 2 0 (some (1)) = 0 ∧ HT.sIx 2 2 none = 2); decide), fun p7 hp7 => ?_⟩
      have e7 : cutV [V.str (wd oo), .int (k : Nat)] (some (1)) none = [.int (k : Nat)] := rfl
      rw [e7]
      generalize g7 : upd G6 p7 _ = G7
      have a7 := new_at g7
      have sm7 := new_sm g7 hp7
      have at1 := sm7 _ _ at1
      have a1 := sm7 _ _ a1
      have a2 := sm7 _ _ a2
      have a3 := sm7 _ _ a3
      have a4 := sm7 _ _ a4
      have a5 := sm7 _ _ a5
      have a6 := sm7 _ _ a6
      have tp := tp.mono sm7
      have T3 := T3.mono sm7
      have T4 := T4.mono sm7
      have T5 := T5.mono sm7
      have s0 := s0.trans sm7
      refine cat_any a6 a7 (by simp) (by simp) fun p8 G8 sm8 a8 => ?_
      have at1 := sm8 _ _ at1
      have a1 := sm8 _ _ a1
      have a2 := sm8 _ _ a2
      have a3 := sm8 _ _ a3
      have a4 := sm8 _ _ a4
      have a5 := sm8 _ _ a5
      have a6 := sm8 _ _ a6
      have a7 := sm8 _ _ a7
      have tp := tp.mono sm8
      have T3 := T3.mono sm8
      have T4 := T4.mono sm8
      have T5 := T5.mono sm8
      have s0 := s0.trans sm8
      have T8 : Thg G8 (N + 1) (.ref p8) := .tup a8 (tha (thc .str th0) (thc .int th0))
      refine ⟨small5 (by simp), fun p9 hp9 => ?_⟩
      generalize g9 : upd G8 p9 _ = G9
      have a9 := new_at g9
      have sm9 := new_sm g9 hp9
      have at1 := sm9 _ _ at1
      have a1 := sm9 _ _ a1
      have a2 := sm9 _ _ a2
      have a3 := sm9 _ _ a3
      have a4 := sm9 _ _ a4
      have a5 := sm9 _ _ a5
      have a6 := sm9 _ _ a6
      have a7 := sm9 _ _ a7
      have a8 := sm9 _ _ a8
      have tp := tp.mono sm9
      have T3 := T3.mono sm9
      have T4 := T4.mono sm9
      have T5 := T5.mono sm9
      have T8 := T8.mono sm9
      have s0 := s0.trans sm9
      refine ⟨t, _, rfl, SqT.of at1, (by show ¬ (HT.sIx 2 0 (some (1)) = 0 ∧ HT.sIx 2 2 none = 2); decide), fun p10 hp10 => ?_⟩
      have e10 : cutV [V.str (wd oo), .int (k : Nat)] (some (1)) none = [.int (k : Nat)] := rfl
      rw [e10]
      generalize g10 : upd G9 p10 _ = G10
      have a10 := new_at g10
      have sm10 := new_sm g10 hp10
      have at1 := sm10 _ _ at1
      have a1 := sm10 _ _ a1
      have a2 := sm10 _ _ a2
      have a3 := sm10 _ _ a3
      have a4 := sm10 _ _ a4
      have a5 := sm10 _ _ a5
      have a6 := sm10 _ _ a6
      have a7 := sm10 _ _ a7
      have a8 := sm10 _ _ a8
      have a9 := sm10 _ _ a9
      have tp := tp.mono sm10
      have T3 := T3.mono sm10
      have T4 := T4.mono sm10
      have T5 := T5.mono sm10
      have T8 := T8.mono sm10
      have s0 := s0.trans sm10
      refine cat_any a9 a10 (by simp) (by simp) fun p11 G11 sm11 a11 => ?_
      have at1 := sm11 _ _ at1
      have a1 := sm11 _ _ a1
      have a2 := sm11 _ _ a2
      have a3 := sm11 _ _ a3
      have a4 := sm11 _ _ a4
      have a5 := sm11 _ _ a5
      have a6 := sm11 _ _ a6
      have a7 := sm11 _ _ a7
      have a8 := sm11 _ _ a8
      have a9 := sm11 _ _ a9
      have a10 := sm11 _ _ a10
      have tp := tp.mono sm11
      have T3 := T3.mono sm11
      have T4 := T4.mono sm11
      have T5 := T5.mono sm11
      have T8 := T8.mono sm11
      have s0 := s0.trans sm11
      have T11 : Thg G11 (N + 1) (.ref p11) := .tup a11 (tha (thc .str th0) (thc .int th0))
      refine ⟨small5 (by simp), fun p12 hp12 => ?_⟩
      generalize g12 : upd G11 p12 _ = G12
      have a12 := new_at g12
      have sm12 := new_sm g12 hp12
      have at1 := sm12 _ _ at1
      have a1 := sm12 _ _ a1
      have a2 := sm12 _ _ a2
      have a3 := sm12 _ _ a3
      have a4 := sm12 _ _ a4
      have a5 := sm12 _ _ a5
      have a6 := sm12 _ _ a6
      have a7 := sm12 _ _ a7
      have a8 := sm12 _ _ a8
      have a9 := sm12 _ _ a9
      have a10 := sm12 _ _ a10
      have a11 := sm12 _ _ a11
      have tp := tp.mono sm12
      have T3 := T3.mono sm12
      have T4 := T4.mono sm12
      have T5 := T5.mono sm12
      have T8 := T8.mono sm12
      have T11 := T11.mono sm12
      have s0 := s0.trans sm12
      have L12 := lst_all (n := N + 1) a12 (thc (.lst a1) (thc .bl (thc .non (thc .str (thc T3 (thc T4 (thc T5 (thc T8 (thc T11 th0)))))))))
      have l0 : 0 < 9 ∧ 9 ≤ 100 := by decide
      (try walk_at "rd")
      refine ixX_t (SqT.of at1) rfl ?_
      refine ⟨small5 (by simp), fun p13 hp13 => ?_⟩
      generalize g13 : upd G12 p13 _ = G13
      have a13 := new_at g13
      have sm13 := new_sm g13 hp13
      have at1 := sm13 _ _ at1
      have a12 := sm13 _ _ a12
      have tp := tp.mono sm13
      have L12 := thm L12 sm13
      have s0 := s0.trans sm13
      refine ⟨t, _, rfl, SqT.of at1, (by show ¬ (HT.sIx 2 0 (some (2)) = 0 ∧ HT.sIx 2 2 none = 2); decide), fun p14 hp14 => ?_⟩
      have e14 : cutV [V.str (wd oo), .int (k : Nat)] (some (2)) none = [] := rfl
      rw [e14]
      generalize g14 : upd G13 p14 _ = G14
      have a14 := new_at g14
      have sm14 := new_sm g14 hp14
      have at1 := sm14 _ _ at1
      have a12 := sm14 _ _ a12
      have a13 := sm14 _ _ a13
      have tp := tp.mono sm14
      have L12 := thm L12 sm14
      have s0 := s0.trans sm14
      refine cat_any a13 a14 (by simp) (by simp) fun p15 G15 sm15 a15 => ?_
      have at1 := sm15 _ _ at1
      have a12 := sm15 _ _ a12
      have a13 := sm15 _ _ a13
      have a14 := sm15 _ _ a14
      have tp := tp.mono sm15
      have L12 := thm L12 sm15
      have s0 := s0.trans sm15
      have T15 : Thg G15 (N + 1) (.ref p15) := .tup a15 (tha (thc .str (thc .bl th0)) th0)
      refine ixX_t (SqT.of at1) rfl ?_
      refine ⟨small5 (by simp), fun p16 hp16 => ?_⟩
      generalize g16 : upd G15 p16 _ = G16
      have a16 := new_at g16
      have sm16 := new_sm g16 hp16
      have at1 := sm16 _ _ at1
      have a12 := sm16 _ _ a12
      have a13 := sm16 _ _ a13
      have a14 := sm16 _ _ a14
      have a15 := sm16 _ _ a15
      have tp := tp.mono sm16
      have T15 := T15.mono sm16
      have L12 := thm L12 sm16
      have s0 := s0.trans sm16
      refine ⟨t, _, rfl, SqT.of at1, (by show ¬ (HT.sIx 2 0 (some (2)) = 0 ∧ HT.sIx 2 2 none = 2); decide), fun p17 hp17 => ?_⟩
      have e17 : cutV [V.str (wd oo), .int (k : Nat)] (some (2)) none = [] := rfl
      rw [e17]
      generalize g17 : upd G16 p17 _ = G17
      have a17 := new_at g17
      have sm17 := new_sm g17 hp17
      have at1 := sm17 _ _ at1
      have a12 := sm17 _ _ a12
      have a13 := sm17 _ _ a13
      have a14 := sm17 _ _ a14
      have a15 := sm17 _ _ a15
      have a16 := sm17 _ _ a16
      have tp := tp.mono sm17
      have T15 := T15.mono sm17
      have L12 := thm L12 sm17
      have s0 := s0.trans sm17
      refine cat_any a16 a17 (by simp) (by simp) fun p18 G18 sm18 a18 => ?_
      have at1 := sm18 _ _ at1
      have a12 := sm18 _ _ a12
      have a13 := sm18 _ _ a13
      have a14 := sm18 _ _ a14
      have a15 := sm18 _ _ a15
      have a16 := sm18 _ _ a16
      have a17 := sm18 _ _ a17
      have tp := tp.mono sm18
      have T15 := T15.mono sm18
      have L12 := thm L12 sm18
      have s0 := s0.trans sm18
      have T18 : Thg G18 (N + 1) (.ref p18) := .tup a18 (tha (thc .str (thc .non th0)) th0)
      refine ixX_t (SqT.of at1) rfl ?_
      refine ixX_t (SqT.of at1) rfl ?_
      refine ⟨_, rfl, log_small hk, ?_⟩
      refine ⟨small5 (by simp), fun p19 hp19 => ?_⟩
      generalize g19 : upd G18 p19 _ = G19
      have a19 := new_at g19
      have sm19 := new_sm g19 hp19
      have at1 := sm19 _ _ at1
      have a12 := sm19 _ _ a12
      have a13 := sm19 _ _ a13
      have a14 := sm19 _ _ a14
      have a15 := sm19 _ _ a15
      have a16 := sm19 _ _ a16
      have a17 := sm19 _ _ a17
      have a18 := sm19 _ _ a18
      have tp := tp.mono sm19
      have T15 := T15.mono sm19
      have T18 := T18.mono sm19
      have L12 := thm L12 sm19
      have s0 := s0.trans sm19
      refine ⟨t, _, rfl, SqT.of at1, (by show ¬ (HT.sIx 2 0 (some (2)) = 0 ∧ HT.sIx 2 2 none = 2); decide), fun p20 hp20 => ?_⟩
      have e20 : cutV [V.str (wd oo), .int (k : Nat)] (some (2)) none = [] := rfl
      rw [e20]
      generalize g20 : upd G19 p20 _ = G20
      have a20 := new_at g20
      have sm20 := new_sm g20 hp20
      have at1 := sm20 _ _ at1
      have a12 := sm20 _ _ a12
      have a13 := sm20 _ _ a13
      have a14 := sm20 _ _ a14
      have a15 := sm20 _ _ a15
      have a16 := sm20 _ _ a16
      have a17 := sm20 _ _ a17
      have a18 := sm20 _ _ a18
      have a19 := sm20 _ _ a19
      have tp := tp.mono sm20
      have T15 := T15.mono sm20
      have T18 := T18.mono sm20
      have L12 := thm L12 sm20
      have s0 := s0.trans sm20
      refine cat_any a19 a20 (by simp) (by simp) fun p21 G21 sm21 a21 => ?_
      have at1 := sm21 _ _ at1
      have a12 := sm21 _ _ a12
      have a13 := sm21 _ _ a13
      have a14 := sm21 _ _ a14
      have a15 := sm21 _ _ a15
      have a16 := sm21 _ _ a16
      have a17 := sm21 _ _ a17
      have a18 := sm21 _ _ a18
      have a19 := sm21 _ _ a19
      have a20 := sm21 _ _ a20
      have tp := tp.mono sm21
      have T15 := T15.mono sm21
      have T18 := T18.mono sm21
      have L12 := thm L12 sm21
      have s0 := s0.trans sm21
      have T21 : Thg G21 (N + 1) (.ref p21) := .tup a21 (tha (thc .str (thc .str th0)) th0)
      refine ⟨small5 (by simp), fun p22 hp22 => ?_⟩
      generalize g22 : upd G21 p22 _ = G22
      have a22 := new_at g22
      have sm22 := new_sm g22 hp22
      have at1 := sm22 _ _ at1
      have a12 := sm22 _ _ a12
      have a13 := sm22 _ _ a13
      have a14 := sm22 _ _ a14
      have a15 := sm22 _ _ a15
      have a16 := sm22 _ _ a16
      have a17 := sm22 _ _ a17
      have a18 := sm22 _ _ a18
      have a19 := sm22 _ _ a19
      have a20 := sm22 _ _ a20
      have a21 := sm22 _ _ a21
      have tp := tp.mono sm22
      have T15 := T15.mono sm22
      have T18 := T18.mono sm22
      have T21 := T21.mono sm22
      have L12 := thm L12 sm22
      have s0 := s0.trans sm22
      have L22 := lst_all (n := N + 1) a22 (thc T15 (thc T18 (thc T21 th0)))
      refine ⟨_, _, _, _, rfl, rfl, SqL.of a12, SqL.of a22, small5 (by first | (simp; done) | (simp; omega)), fun p23 hp23 => ?_⟩
      have ho23 := old_none s0 hp23
      generalize g23 : upd G22 p23 _ = G23
      have a23 := new_at g23
      have sm23 := new_sm g23 hp23
      have at1 := sm23 _ _ at1
      have a22 := sm23 _ _ a22
      have a12 := sm23 _ _ a12
      have tp := tp.mono sm23
      have L12 := thm L12 sm23
      have L22 := thm L22 sm23
      have s0 := s0.trans sm23
      have L23 := tha L12 L22
      (try walk_at "rd")
      refine ixX_t (SqT.of at1) rfl ?_
      refine ixX_t (SqT.of at1) rfl ?_
      (try walk_at "rd")
      refine ⟨small5 (by simp), fun p24 hp24 => ?_⟩
      generalize g24 : upd G23 p24 _ = G24
      have a24 := new_at g24
      have sm24 := new_sm g24 hp24
      have at1 := sm24 _ _ at1
      have a23 := sm24 _ _ a23
      have tp := tp.mono sm24
      have L23 := thm L23 sm24
      have s0 := s0.trans sm24
      refine ⟨t, _, rfl, SqT.of at1, (by show ¬ (HT.sIx 2 0 (some (2)) = 0 ∧ HT.sIx 2 2 none = 2); decide), fun p25 hp25 => ?_⟩
      have e25 : cutV [V.str (wd oo), .int (k : Nat)] (some (2)) none = [] := rfl
      rw [e25]
      generalize g25 : upd G24 p25 _ = G25
      have a25 := new_at g25
      have sm25 := new_sm g25 hp25
      have at1 := sm25 _ _ at1
      have a23 := sm25 _ _ a23
      have a24 := sm25 _ _ a24
      have tp := tp.mono sm25
      have L23 := thm L23 sm25
      have s0 := s0.trans sm25
      refine cat_any a24 a25 (by simp) (by simp) fun p26 G26 sm26 a26 => ?_
      have at1 := sm26 _ _ at1
      have a23 := sm26 _ _ a23
      have a24 := sm26 _ _ a24
      have a25 := sm26 _ _ a25
      have tp := tp.mono sm26
      have L23 := thm L23 sm26
      have s0 := s0.trans sm26
      have T26 : Thg G26 (N + 1) (.ref p26) := .tup a26 (tha (thc .str (thc .int th0)) th0)
      refine ixX_t (SqT.of at1) rfl ?_
      refine ⟨small5 (by simp), fun p27 hp27 => ?_⟩
      generalize g27 : upd G26 p27 _ = G27
      have a27 := new_at g27
      have sm27 := new_sm g27 hp27
      have at1 := sm27 _ _ at1
      have a23 := sm27 _ _ a23
      have a24 := sm27 _ _ a24
      have a25 := sm27 _ _ a25
      have a26 := sm27 _ _ a26
      have tp := tp.mono sm27
      have T26 := T26.mono sm27
      have L23 := thm L23 sm27
      have s0 := s0.trans sm27
      refine ⟨t, _, rfl, SqT.of at1, (by show ¬ (HT.sIx 2 0 (some (2)) = 0 ∧ HT.sIx 2 2 none = 2); decide), fun p28 hp28 => ?_⟩
      have e28 : cutV [V.str (wd oo), .int (k : Nat)] (some (2)) none = [] := rfl
      rw [e28]
      generalize g28 : upd G27 p28 _ = G28
      have a28 := new_at g28
      have sm28 := new_sm g28 hp28
      have at1 := sm28 _ _ at1
      have a23 := sm28 _ _ a23
      have a24 := sm28 _ _ a24
      have a25 := sm28 _ _ a25
      have a26 := sm28 _ _ a26
      have a27 := sm28 _ _ a27
      have tp := tp.mono sm28
      have T26 := T26.mono sm28
      have L23 := thm L23 sm28
      have s0 := s0.trans sm28
      refine cat_any a27 a28 (by simp) (by simp) fun p29 G29 sm29 a29 => ?_
      have at1 := sm29 _ _ at1
      have a23 := sm29 _ _ a23
      have a24 := sm29 _ _ a24
      have a25 := sm29 _ _ a25
      have a26 := sm29 _ _ a26
      have a27 := sm29 _ _ a27
      have a28 := sm29 _ _ a28
      have tp := tp.mono sm29
      have T26 := T26.mono sm29
      have L23 := thm L23 sm29
      have s0 := s0.trans sm29
      have T29 : Thg G29 (N + 1) (.ref p29) := .tup a29 (tha (thc .str (thc .int th0)) th0)
      refine ixX_t (SqT.of at1) rfl ?_
      refine ⟨⟨by decide, by decide, by decide⟩, ?_⟩
      refine ⟨small5 (by simp), fun p30 hp30 => ?_⟩
      generalize g30 : upd G29 p30 _ = G30
      have a30 := new_at g30
      have sm30 := new_sm g30 hp30
      have at1 := sm30 _ _ at1
      have a23 := sm30 _ _ a23
      have a24 := sm30 _ _ a24
      have a25 := sm30 _ _ a25
      have a26 := sm30 _ _ a26
      have a27 := sm30 _ _ a27
      have a28 := sm30 _ _ a28
      have a29 := sm30 _ _ a29
      have tp := tp.mono sm30
      have T26 := T26.mono sm30
      have T29 := T29.mono sm30
      have L23 := thm L23 sm30
      have s0 := s0.trans sm30
      refine ⟨t, _, rfl, SqT.of at1, (by show ¬ (HT.sIx 2 0 (some (2)) = 0 ∧ HT.sIx 2 2 none = 2); decide), fun p31 hp31 => ?_⟩
      have e31 : cutV [V.str (wd oo), .int (k : Nat)] (some (2)) none = [] := rfl
      rw [e31]
      generalize g31 : upd G30 p31 _ = G31
      have a31 := new_at g31
      have sm31 := new_sm g31 hp31
      have at1 := sm31 _ _ at1
      have a23 := sm31 _ _ a23
      have a24 := sm31 _ _ a24
      have a25 := sm31 _ _ a25
      have a26 := sm31 _ _ a26
      have a27 := sm31 _ _ a27
      have a28 := sm31 _ _ a28
      have a29 := sm31 _ _ a29
      have a30 := sm31 _ _ a30
      have tp := tp.mono sm31
      have T26 := T26.mono sm31
      have T29 := T29.mono sm31
      have L23 := thm L23 sm31
      have s0 := s0.trans sm31
      refine cat_any a30 a31 (by simp) (by simp) fun p32 G32 sm32 a32 => ?_
      have at1 := sm32 _ _ at1
      have a23 := sm32 _ _ a23
      have a24 := sm32 _ _ a24
      have a25 := sm32 _ _ a25
      have a26 := sm32 _ _ a26
      have a27 := sm32 _ _ a27
      have a28 := sm32 _ _ a28
      have a29 := sm32 _ _ a29
      have a30 := sm32 _ _ a30
      have a31 := sm32 _ _ a31
      have tp := tp.mono sm32
      have T26 := T26.mono sm32
      have T29 := T29.mono sm32
      have L23 := thm L23 sm32
      have s0 := s0.trans sm32
      have T32 : Thg G32 (N + 1) (.ref p32) := .tup a32 (tha (thc .str (thc .int th0)) th0)
      refine ⟨small5 (by simp), fun p33 hp33 => ?_⟩
      generalize g33 : upd G32 p33 _ = G33
      have a33 := new_at g33
      have sm33 := new_sm g33 hp33
      have at1 := sm33 _ _ at1
      have a23 := sm33 _ _ a23
      have a24 := sm33 _ _ a24
      have a25 := sm33 _ _ a25
      have a26 := sm33 _ _ a26
      have a27 := sm33 _ _ a27
      have a28 := sm33 _ _ a28
      have a29 := sm33 _ _ a29
      have a30 := sm33 _ _ a30
      have a31 := sm33 _ _ a31
      have a32 := sm33 _ _ a32
      have tp := tp.mono sm33
      have T26 := T26.mono sm33
      have T29 := T29.mono sm33
      have T32 := T32.mono sm33
      have L23 := thm L23 sm33
      have s0 := s0.trans sm33
      have L33 := lst_all (n := N + 1) a33 (thc T26 (thc T29 (thc T32 th0)))
      refine ⟨_, _, _, _, rfl, rfl, SqL.of a23, SqL.of a33, small5 (by first | (simp; done) | (simp; omega)), fun p34 hp34 => ?_⟩
      have ho34 := old_none s0 hp34
      generalize g34 : upd G33 p34 _ = G34
      have a34 := new_at g34
      have sm34 := new_sm g34 hp34
      have at1 := sm34 _ _ at1
      have a33 := sm34 _ _ a33
      have a23 := sm34 _ _ a23
      have tp := tp.mono sm34
      have L23 := thm L23 sm34
      have L33 := thm L33 sm34
      have s0 := s0.trans sm34
      have L34 := tha L23 L33
      (try walk_at "rd")
      intro p35 hp35
      refine ⟨upd_same, [(Sum.inr "one", .int 0)], rfl, by simp, ?_⟩
      generalize g35 : upd (upd G34 p35 _) p35 _ = G35
      have a35 := new_at g35
      have sm35 : Same G34 G35 := by rw [← g35]; exact (Same.new hp35).upd hp35
      have at1 := sm35 _ _ at1
      have a34 := sm35 _ _ a34
      have tp := tp.mono sm35
      have L34 := thm L34 sm35
      have s0 := s0.trans sm35
      refine ⟨small5 (by simp), fun p36 hp36 => ?_⟩
      generalize g36 : upd G35 p36 _ = G36
      have a36 := new_at g36
      have sm36 := new_sm g36 hp36
      have at1 := sm36 _ _ at1
      have a34 := sm36 _ _ a34
      have a35 := sm36 _ _ a35
      have tp := tp.mono sm36
      have L34 := thm L34 sm36
      have s0 := s0.trans sm36
      refine ⟨small5 (by simp), fun p37 hp37 => ?_⟩
      generalize g37 : upd G36 p37 _ = G37
      have a37 := new_at g37
      have sm37 := new_sm g37 hp37
      have at1 := sm37 _ _ at1
      have a34 := sm37 _ _ a34
      have a35 := sm37 _ _ a35
      have a36 := sm37 _ _ a36
      have tp := tp.mono sm37
      have L34 := thm L34 sm37
      have s0 := s0.trans sm37
      refine ⟨t, _, rfl, SqT.of at1, (by show ¬ (HT.sIx 2 0 (some (1)) = 0 ∧ HT.sIx 2 2 none = 2); decide), fun p38 hp38 => ?_⟩
      have e38 : cutV [V.str (wd oo), .int (k : Nat)] (some (1)) none = [.int (k : Nat)] := rfl
      rw [e38]
      generalize g38 : upd G37 p38 _ = G38
      have a38 := new_at g38
      have sm38 := new_sm g38 hp38
      have at1 := sm38 _ _ at1
      have a34 := sm38 _ _ a34
      have a35 := sm38 _ _ a35
      have a36 := sm38 _ _ a36
      have a37 := sm38 _ _ a37
      have tp := tp.mono sm38
      have L34 := thm L34 sm38
      have s0 := s0.trans sm38
      refine cat_any a37 a38 (by simp) (by simp) fun p39 G39 sm39 a39 => ?_
      have at1 := sm39 _ _ at1
      have a34 := sm39 _ _ a34
      have a35 := sm39 _ _ a35
      have a36 := sm39 _ _ a36
      have a37 := sm39 _ _ a37
      have a38 := sm39 _ _ a38
      have tp := tp.mono sm39
      have L34 := thm L34 sm39
      have s0 := s0.trans sm39
      have T39 : Thg G39 (N + 1) (.ref p39) := .tup a39 (tha (thc (.lst a36) th0) (thc .int th0))
      refine ⟨small5 (by simp), fun p40 hp40 => ?_⟩
      generalize g40 : upd G39 p40 _ = G40
      have a40 := new_at g40
      have sm40 := new_sm g40 hp40
      have at1 := sm40 _ _ at1
      have a34 := sm40 _ _ a34
      have a35 := sm40 _ _ a35
      have a36 := sm40 _ _ a36
      have a37 := sm40 _ _ a37
      have a38 := sm40 _ _ a38
      have a39 := sm40 _ _ a39
      have tp := tp.mono sm40
      have T39 := T39.mono sm40
      have L34 := thm L34 sm40
      have s0 := s0.trans sm40
      have T40 : Thg G40 (N + 1) (.ref p40) := .tup a40 (thc .str (thc .int th0))
      refine ⟨small5 (by simp), fun p41 hp41 => ?_⟩
      generalize g41 : upd G40 p41 _ = G41
      have a41 := new_at g41
      have sm41 := new_sm g41 hp41
      have at1 := sm41 _ _ at1
      have a34 := sm41 _ _ a34
      have a35 := sm41 _ _ a35
      have a36 := sm41 _ _ a36
      have a37 := sm41 _ _ a37
      have a38 := sm41 _ _ a38
      have a39 := sm41 _ _ a39
      have a40 := sm41 _ _ a40
      have tp := tp.mono sm41
      have T39 := T39.mono sm41
      have T40 := T40.mono sm41
      have L34 := thm L34 sm41
      have s0 := s0.trans sm41
      have T41 : Thg G41 (N + 1) (.ref p41) := .tup a41 (thc .str (thc .int th0))
      refine ⟨small5 (by simp), fun p42 hp42 => ?_⟩
      generalize g42 : upd G41 p42 _ = G42
      have a42 := new_at g42
      have sm42 := new_sm g42 hp42
      have at1 := sm42 _ _ at1
      have a34 := sm42 _ _ a34
      have a35 := sm42 _ _ a35
      have a36 := sm42 _ _ a36
      have a37 := sm42 _ _ a37
      have a38 := sm42 _ _ a38
      have a39 := sm42 _ _ a39
      have a40 := sm42 _ _ a40
      have a41 := sm42 _ _ a41
      have tp := tp.mono sm42
      have T39 := T39.mono sm42
      have T40 := T40.mono sm42
      have T41 := T41.mono sm42
      have L34 := thm L34 sm42
      have s0 := s0.trans sm42
      have T42 : Thg G42 (N + 1) (.ref p42) := .tup a42 (thc tp th0)
      refine ⟨small5 (by simp), fun p43 hp43 => ?_⟩
      generalize g43 : upd G42 p43 _ = G43
      have a43 := new_at g43
      have sm43 := new_sm g43 hp43
      have at1 := sm43 _ _ at1
      have a34 := sm43 _ _ a34
      have a35 := sm43 _ _ a35
      have a36 := sm43 _ _ a36
      have a37 := sm43 _ _ a37
      have a38 := sm43 _ _ a38
      have a39 := sm43 _ _ a39
      have a40 := sm43 _ _ a40
      have a41 := sm43 _ _ a41
      have a42 := sm43 _ _ a42
      have tp := tp.mono sm43
      have T39 := T39.mono sm43
      have T40 := T40.mono sm43
      have T41 := T41.mono sm43
      have T42 := T42.mono sm43
      have L34 := thm L34 sm43
      have s0 := s0.trans sm43
      have L43 := lst_all (n := N + 1) a43 (thc (.dct a35) (thc T39 (thc T40 (thc T41 (thc T42 th0)))))
      refine ⟨_, _, _, _, rfl, rfl, SqL.of a34, SqL.of a43, small5 (by first | (simp; done) | (simp; omega)), fun p44 hp44 => ?_⟩
      have ho44 := old_none s0 hp44
      generalize g44 : upd G43 p44 _ = G44
      have a44 := new_at g44
      have sm44 := new_sm g44 hp44
      have at1 := sm44 _ _ at1
      have a43 := sm44 _ _ a43
      have a34 := sm44 _ _ a34
      have tp := tp.mono sm44
      have L34 := thm L34 sm44
      have L43 := thm L43 sm44
      have s0 := s0.trans sm44
      have L44 := tha L34 L43
      refine tSeq_ifb.mpr (apTest (b := false) (fun R r => ?_) (iteF ?_))
      · (try walk_at "rd")
        exact ⟨_, .inr (SqT.of at1), by simpa using r⟩
      (try walk_at "rd")
      exact pick_any a44 (by simp) L44 fun x tx => q x _ s0 tx
    | @name _ u v k l r at1 R1 R2 =>
      have hk : k ≤ 1000 := hB.1
      have tu : Thg H N (.ref u) := R1.thg.up (by rw [← hN]; simp only [hgt]; omega)
      have tv : Thg H N (.ref v) := R2.thg.up (by rw [← hN]; simp only [hgt]; omega)
      refine ⟨_, .inr (SqT.of at1), fun p1 hp1 => ?_⟩
      generalize g1 : upd H p1 _ = G1
      have a1 := new_at g1
      have sm1 := new_sm g1 hp1
      have at1 := sm1 _ _ at1
      have tp := tp.mono sm1
      have tu := tu.mono sm1
      have tv := tv.mono sm1
      have s0 := s0.trans sm1
      refine ⟨small5 (by simp), fun p2 hp2 => ?_⟩
      generalize g2 : upd G1 p2 _ = G2
      have a2 := new_at g2
      have sm2 := new_sm g2 hp2
      have at1 := sm2 _ _ at1
      have a1 := sm2 _ _ a1
      have tp := tp.mono sm2
      have tu := tu.mono sm2
      have tv := tv.mono sm2
      have s0 := s0.trans sm2
      refine cat_any at1 a2 (by simp) (by simp) fun p3 G3 sm3 a3 => ?_
      have at1 := sm3 _ _ at1
      have a1 := sm3 _ _ a1
      have a2 := sm3 _ _ a2
      have tp := tp.mono sm3
      have tu := tu.mono sm3
      have tv := tv.mono sm3
      have s0 := s0.trans sm3
      have T3 : Thg G3 (N + 1) (.ref p3) := .tup a3 (tha (thc .str (thc .int (thc tu (thc tv th0)))) (thc .int th0))
      refine ⟨t, _, rfl, SqT.of at1, (by show ¬ (HT.sIx 4 0 none = 0 ∧ HT.sIx 4 4 (some (-1)) = 4); decide), fun p4 hp4 => ?_⟩
      have e4 : cutV [V.str "name", .int (k : Nat), .ref u, .ref v] none (some (-1)) = [V.str "name", .int (k : Nat), .ref u] := rfl
      rw [e4]
      generalize g4 : upd G3 p4 _ = G4
      have a4 := new_at g4
      have sm4 := new_sm g4 hp4
      have at1 := sm4 _ _ at1
      have a1 := sm4 _ _ a1
      have a2 := sm4 _ _ a2
      have a3 := sm4 _ _ a3
      have tp := tp.mono sm4
      have tu := tu.mono sm4
      have tv := tv.mono sm4
      have T3 := T3.mono sm4
      have s0 := s0.trans sm4
      have T4 : Thg G4 (N + 1) (.ref p4) := .tup a4 (thc .str (thc .int (thc tu th0)))
      refine ⟨small5 (by simp), fun p5 hp5 => ?_⟩
      generalize g5 : upd G4 p5 _ = G5
      have a5 := new_at g5
      have sm5 := new_sm g5 hp5
      have at1 := sm5 _ _ at1
      have a1 := sm5 _ _ a1
      have a2 := sm5 _ _ a2
      have a3 := sm5 _ _ a3
      have a4 := sm5 _ _ a4
      have tp := tp.mono sm5
      have tu := tu.mono sm5
      have tv := tv.mono sm5
      have T3 := T3.mono sm5
      have T4 := T4.mono sm5
      have s0 := s0.trans sm5
      have T5 : Thg G5 (N + 1) (.ref p5) := .tup a5 th0
      refine ⟨small5 (by simp), fun p6 hp6 => ?_⟩
      generalize g6 : upd G5 p6 _ = G6
      have a6 := new_at g6
      have sm6 := new_sm g6 hp6
      have at1 := sm6 _ _ at1
      have a1 := sm6 _ _ a1
      have a2 := sm6 _ _ a2
      have a3 := sm6 _ _ a3
      have a4 := sm6 _ _ a4
      have a5 := sm6 _ _ a5
      have tp := tp.mono sm6
      have tu := tu.mono sm6
      have tv := tv.mono sm6
      have T3 := T3.mono sm6
      have T4 := T4.mono sm6
      have T5 := T5.mono sm6
      have s0 := s0.trans sm6
      refine ⟨t, _, rfl, SqT.of at1, (by show ¬ (HT.sIx 4 0 (some (1)) = 0 ∧ HT.sIx 4 4 none = 4); decide), fun p7 hp7 => ?_⟩
      have e7 : cutV [V.str "name", .int (k : Nat), .ref u, .ref v] (some (1)) none = [.int (k : Nat), .ref u, .ref v] := rfl
      rw [e7]
      generalize g7 : upd G6 p7 _ = G7
      have a7 := new_at g7
      have sm7 := new_sm g7 hp7
      have at1 := sm7 _ _ at1
      have a1 := sm7 _ _ a1
      have a2 := sm7 _ _ a2
      have a3 := sm7 _ _ a3
      have a4 := sm7 _ _ a4
      have a5 := sm7 _ _ a5
      have a6 := sm7 _ _ a6
      have tp := tp.mono sm7
      have tu := tu.mono sm7
      have tv := tv.mono sm7
      have T3 := T3.mono sm7
      have T4 := T4.mono sm7
      have T5 := T5.mono sm7
      have s0 := s0.trans sm7
      refine cat_any a6 a7 (by simp) (by simp) fun p8 G8 sm8 a8 => ?_
      have at1 := sm8 _ _ at1
      have a1 := sm8 _ _ a1
      have a2 := sm8 _ _ a2
      have a3 := sm8 _ _ a3
      have a4 := sm8 _ _ a4
      have a5 := sm8 _ _ a5
      have a6 := sm8 _ _ a6
      have a7 := sm8 _ _ a7
      have tp := tp.mono sm8
      have tu := tu.mono sm8
      have tv := tv.mono sm8
      have T3 := T3.mono sm8
      have T4 := T4.mono sm8
      have T5 := T5.mono sm8
      have s0 := s0.trans sm8
      have T8 : Thg G8 (N + 1) (.ref p8) := .tup a8 (tha (thc .str th0) (thc .int (thc tu (thc tv th0))))
      refine ⟨small5 (by simp), fun p9 hp9 => ?_⟩
      generalize g9 : upd G8 p9 _ = G9
      have a9 := new_at g9
      have sm9 := new_sm g9 hp9
      have at1 := sm9 _ _ at1
      have a1 := sm9 _ _ a1
      have a2 := sm9 _ _ a2
      have a3 := sm9 _ _ a3
      have a4 := sm9 _ _ a4
      have a5 := sm9 _ _ a5
      have a6 := sm9 _ _ a6
      have a7 := sm9 _ _ a7
      have a8 := sm9 _ _ a8
      have tp := tp.mono sm9
      have tu := tu.mono sm9
      have tv := tv.mono sm9
      have T3 := T3.mono sm9
      have T4 := T4.mono sm9
      have T5 := T5.mono sm9
      have T8 := T8.mono sm9
      have s0 := s0.trans sm9
      refine ⟨t, _, rfl, SqT.of at1, (by show ¬ (HT.sIx 4 0 (some (1)) = 0 ∧ HT.sIx 4 4 none = 4); decide), fun p10 hp10 => ?_⟩
      have e10 : cutV [V.str "name", .int (k : Nat), .ref u, .ref v] (some (1)) none = [.int (k : Nat), .ref u, .ref v] := rfl
      rw [e10]
      generalize g10 : upd G9 p10 _ = G10
      have a10 := new_at g10
      have sm10 := new_sm g10 hp10
      have at1 := sm10 _ _ at1
      have a1 := sm10 _ _ a1
      have a2 := sm10 _ _ a2
      have a3 := sm10 _ _ a3
      have a4 := sm10 _ _ a4
      have a5 := sm10 _ _ a5
      have a6 := sm10 _ _ a6
      have a7 := sm10 _ _ a7
      have a8 := sm10 _ _ a8
      have a9 := sm10 _ _ a9
      have tp := tp.mono sm10
      have tu := tu.mono sm10
      have tv := tv.mono sm10
      have T3 := T3.mono sm10
      have T4 := T4.mono sm10
      have T5 := T5.mono sm10
      have T8 := T8.mono sm10
      have s0 := s0.trans sm10
      refine cat_any a9 a10 (by simp) (by simp) fun p11 G11 sm11 a11 => ?_
      have at1 := sm11 _ _ at1
      have a1 := sm11 _ _ a1
      have a2 := sm11 _ _ a2
      have a3 := sm11 _ _ a3
      have a4 := sm11 _ _ a4
      have a5 := sm11 _ _ a5
      have a6 := sm11 _ _ a6
      have a7 := sm11 _ _ a7
      have a8 := sm11 _ _ a8
      have a9 := sm11 _ _ a9
      have a10 := sm11 _ _ a10
      have tp := tp.mono sm11
      have tu := tu.mono sm11
      have tv := tv.mono sm11
      have T3 := T3.mono sm11
      have T4 := T4.mono sm11
      have T5 := T5.mono sm11
      have T8 := T8.mono sm11
      have s0 := s0.trans sm11
      have T11 : Thg G11 (N + 1) (.ref p11) := .tup a11 (tha (thc .str th0) (thc .int (thc tu (thc tv th0))))
      refine ⟨small5 (by simp), fun p12 hp12 => ?_⟩
      generalize g12 : upd G11 p12 _ = G12
      have a12 := new_at g12
      have sm12 := new_sm g12 hp12
      have at1 := sm12 _ _ at1
      have a1 := sm12 _ _ a1
      have a2 := sm12 _ _ a2
      have a3 := sm12 _ _ a3
      have a4 := sm12 _ _ a4
      have a5 := sm12 _ _ a5
      have a6 := sm12 _ _ a6
      have a7 := sm12 _ _ a7
      have a8 := sm12 _ _ a8
      have a9 := sm12 _ _ a9
      have a10 := sm12 _ _ a10
      have a11 := sm12 _ _ a11
      have tp := tp.mono sm12
      have tu := tu.mono sm12
      have tv := tv.mono sm12
      have T3 := T3.mono sm12
      have T4 := T4.mono sm12
      have T5 := T5.mono sm12
      have T8 := T8.mono sm12
      have T11 := T11.mono sm12
      have s0 := s0.trans sm12
      have L12 := lst_all (n := N + 1) a12 (thc (.lst a1) (thc .bl (thc .non (thc .str (thc T3 (thc T4 (thc T5 (thc T8 (thc T11 th0)))))))))
      have l0 : 0 < 9 ∧ 9 ≤ 100 := by decide
      (try walk_at "rd")
      refine ixX_t (SqT.of at1) rfl ?_
      refine ⟨small5 (by simp), fun p13 hp13 => ?_⟩
      generalize g13 : upd G12 p13 _ = G13
      have a13 := new_at g13
      have sm13 := new_sm g13 hp13
      have at1 := sm13 _ _ at1
      have a12 := sm13 _ _ a12
      have tp := tp.mono sm13
      have tu := tu.mono sm13
      have tv := tv.mono sm13
      have L12 := thm L12 sm13
      have s0 := s0.trans sm13
      refine ⟨t, _, rfl, SqT.of at1, (by show ¬ (HT.sIx 4 0 (some (2)) = 0 ∧ HT.sIx 4 4 none = 4); decide), fun p14 hp14 => ?_⟩
      have e14 : cutV [V.str "name", .int (k : Nat), .ref u, .ref v] (some (2)) none = [.ref u, .ref v] := rfl
      rw [e14]
      generalize g14 : upd G13 p14 _ = G14
      have a14 := new_at g14
      have sm14 := new_sm g14 hp14
      have at1 := sm14 _ _ at1
      have a12 := sm14 _ _ a12
      have a13 := sm14 _ _ a13
      have tp := tp.mono sm14
      have tu := tu.mono sm14
      have tv := tv.mono sm14
      have L12 := thm L12 sm14
      have s0 := s0.trans sm14
      refine cat_any a13 a14 (by simp) (by simp) fun p15 G15 sm15 a15 => ?_
      have at1 := sm15 _ _ at1
      have a12 := sm15 _ _ a12
      have a13 := sm15 _ _ a13
      have a14 := sm15 _ _ a14
      have tp := tp.mono sm15
      have tu := tu.mono sm15
      have tv := tv.mono sm15
      have L12 := thm L12 sm15
      have s0 := s0.trans sm15
      have T15 : Thg G15 (N + 1) (.ref p15) := .tup a15 (tha (thc .str (thc .bl th0)) (thc tu (thc tv th0)))
      refine ixX_t (SqT.of at1) rfl ?_
      refine ⟨small5 (by simp), fun p16 hp16 => ?_⟩
      generalize g16 : upd G15 p16 _ = G16
      have a16 := new_at g16
      have sm16 := new_sm g16 hp16
      have at1 := sm16 _ _ at1
      have a12 := sm16 _ _ a12
      have a13 := sm16 _ _ a13
      have a14 := sm16 _ _ a14
      have a15 := sm16 _ _ a15
      have tp := tp.mono sm16
      have tu := tu.mono sm16
      have tv := tv.mono sm16
      have T15 := T15.mono sm16
      have L12 := thm L12 sm16
      have s0 := s0.trans sm16
      refine ⟨t, _, rfl, SqT.of at1, (by show ¬ (HT.sIx 4 0 (some (2)) = 0 ∧ HT.sIx 4 4 none = 4); decide), fun p17 hp17 => ?_⟩
      have e17 : cutV [V.str "name", .int (k : Nat), .ref u, .ref v] (some (2)) none = [.ref u, .ref v] := rfl
      rw [e17]
      generalize g17 : upd G16 p17 _ = G17
      have a17 := new_at g17
      have sm17 := new_sm g17 hp17
      have at1 := sm17 _ _ at1
      have a12 := sm17 _ _ a12
      have a13 := sm17 _ _ a13
      have a14 := sm17 _ _ a14
      have a15 := sm17 _ _ a15
      have a16 := sm17 _ _ a16
      have tp := tp.mono sm17
      have tu := tu.mono sm17
      have tv := tv.mono sm17
      have T15 := T15.mono sm17
      have L12 := thm L12 sm17
      have s0 := s0.trans sm17
      refine cat_any a16 a17 (by simp) (by simp) fun p18 G18 sm18 a18 => ?_
      have at1 := sm18 _ _ at1
      have a12 := sm18 _ _ a12
      have a13 := sm18 _ _ a13
      have a14 := sm18 _ _ a14
      have a15 := sm18 _ _ a15
      have a16 := sm18 _ _ a16
      have a17 := sm18 _ _ a17
      have tp := tp.mono sm18
      have tu := tu.mono sm18
      have tv := tv.mono sm18
      have T15 := T15.mono sm18
      have L12 := thm L12 sm18
      have s0 := s0.trans sm18
      have T18 : Thg G18 (N + 1) (.ref p18) := .tup a18 (tha (thc .str (thc .non th0)) (thc tu (thc tv th0)))
      refine ixX_t (SqT.of at1) rfl ?_
      refine ixX_t (SqT.of at1) rfl ?_
      refine ⟨_, rfl, log_small hk, ?_⟩
      refine ⟨small5 (by simp), fun p19 hp19 => ?_⟩
      generalize g19 : upd G18 p19 _ = G19
      have a19 := new_at g19
      have sm19 := new_sm g19 hp19
      have at1 := sm19 _ _ at1
      have a12 := sm19 _ _ a12
      have a13 := sm19 _ _ a13
      have a14 := sm19 _ _ a14
      have a15 := sm19 _ _ a15
      have a16 := sm19 _ _ a16
      have a17 := sm19 _ _ a17
      have a18 := sm19 _ _ a18
      have tp := tp.mono sm19
      have tu := tu.mono sm19
      have tv := tv.mono sm19
      have T15 := T15.mono sm19
      have T18 := T18.mono sm19
      have L12 := thm L12 sm19
      have s0 := s0.trans sm19
      refine ⟨t, _, rfl, SqT.of at1, (by show ¬ (HT.sIx 4 0 (some (2)) = 0 ∧ HT.sIx 4 4 none = 4); decide), fun p20 hp20 => ?_⟩
      have e20 : cutV [V.str "name", .int (k : Nat), .ref u, .ref v] (some (2)) none = [.ref u, .ref v] := rfl
      rw [e20]
      generalize g20 : upd G19 p20 _ = G20
      have a20 := new_at g20
      have sm20 := new_sm g20 hp20
      have at1 := sm20 _ _ at1
      have a12 := sm20 _ _ a12
      have a13 := sm20 _ _ a13
      have a14 := sm20 _ _ a14
      have a15 := sm20 _ _ a15
      have a16 := sm20 _ _ a16
      have a17 := sm20 _ _ a17
      have a18 := sm20 _ _ a18
      have a19 := sm20 _ _ a19
      have tp := tp.mono sm20
      have tu := tu.mono sm20
      have tv := tv.mono sm20
      have T15 := T15.mono sm20
      have T18 := T18.mono sm20
      have L12 := thm L12 sm20
      have s0 := s0.trans sm20
      refine cat_any a19 a20 (by simp) (by simp) fun p21 G21 sm21 a21 => ?_
      have at1 := sm21 _ _ at1
      have a12 := sm21 _ _ a12
      have a13 := sm21 _ _ a13
      have a14 := sm21 _ _ a14
      have a15 := sm21 _ _ a15
      have a16 := sm21 _ _ a16
      have a17 := sm21 _ _ a17
      have a18 := sm21 _ _ a18
      have a19 := sm21 _ _ a19
      have a20 := sm21 _ _ a20
      have tp := tp.mono sm21
      have tu := tu.mono sm21
      have tv := tv.mono sm21
      have T15 := T15.mono sm21
      have T18 := T18.mono sm21
      have L12 := thm L12 sm21
      have s0 := s0.trans sm21
      have T21 : Thg G21 (N + 1) (.ref p21) := .tup a21 (tha (thc .str (thc .str th0)) (thc tu (thc tv th0)))
      refine ⟨small5 (by simp), fun p22 hp22 => ?_⟩
      generalize g22 : upd G21 p22 _ = G22
      have a22 := new_at g22
      have sm22 := new_sm g22 hp22
      have at1 := sm22 _ _ at1
      have a12 := sm22 _ _ a12
      have a13 := sm22 _ _ a13
      have a14 := sm22 _ _ a14
      have a15 := sm22 _ _ a15
      have a16 := sm22 _ _ a16
      have a17 := sm22 _ _ a17
      have a18 := sm22 _ _ a18
      have a19 := sm22 _ _ a19
      have a20 := sm22 _ _ a20
      have a21 := sm22 _ _ a21
      have tp := tp.mono sm22
      have tu := tu.mono sm22
      have tv := tv.mono sm22
      have T15 := T15.mono sm22
      have T18 := T18.mono sm22
      have T21 := T21.mono sm22
      have L12 := thm L12 sm22
      have s0 := s0.trans sm22
      have L22 := lst_all (n := N + 1) a22 (thc T15 (thc T18 (thc T21 th0)))
      refine ⟨_, _, _, _, rfl, rfl, SqL.of a12, SqL.of a22, small5 (by first | (simp; done) | (simp; omega)), fun p23 hp23 => ?_⟩
      have ho23 := old_none s0 hp23
      generalize g23 : upd G22 p23 _ = G23
      have a23 := new_at g23
      have sm23 := new_sm g23 hp23
      have at1 := sm23 _ _ at1
      have a22 := sm23 _ _ a22
      have a12 := sm23 _ _ a12
      have tp := tp.mono sm23
      have tu := tu.mono sm23
      have tv := tv.mono sm23
      have L12 := thm L12 sm23
      have L22 := thm L22 sm23
      have s0 := s0.trans sm23
      have L23 := tha L12 L22
      (try walk_at "rd")
      refine ixX_t (SqT.of at1) rfl ?_
      refine ixX_t (SqT.of at1) rfl ?_
      (try walk_at "rd")
      refine ⟨small5 (by simp), fun p24 hp24 => ?_⟩
      generalize g24 : upd G23 p24 _ = G24
      have a24 := new_at g24
      have sm24 := new_sm g24 hp24
      have at1 := sm24 _ _ at1
      have a23 := sm24 _ _ a23
      have tp := tp.mono sm24
      have tu := tu.mono sm24
      have tv := tv.mono sm24
      have L23 := thm L23 sm24
      have s0 := s0.trans sm24
      refine ⟨t, _, rfl, SqT.of at1, (by show ¬ (HT.sIx 4 0 (some (2)) = 0 ∧ HT.sIx 4 4 none = 4); decide), fun p25 hp25 => ?_⟩
      have e25 : cutV [V.str "name", .int (k : Nat), .ref u, .ref v] (some (2)) none = [.ref u, .ref v] := rfl
      rw [e25]
      generalize g25 : upd G24 p25 _ = G25
      have a25 := new_at g25
      have sm25 := new_sm g25 hp25
      have at1 := sm25 _ _ at1
      have a23 := sm25 _ _ a23
      have a24 := sm25 _ _ a24
      have tp := tp.mono sm25
      have tu := tu.mono sm25
      have tv := tv.mono sm25
      have L23 := thm L23 sm25
      have s0 := s0.trans sm25
      refine cat_any a24 a25 (by simp) (by simp) fun p26 G26 sm26 a26 => ?_
      have at1 := sm26 _ _ at1
      have a23 := sm26 _ _ a23
      have a24 := sm26 _ _ a24
      have a25 := sm26 _ _ a25
      have tp := tp.mono sm26
      have tu := tu.mono sm26
      have tv := tv.mono sm26
      have L23 := thm L23 sm26
      have s0 := s0.trans sm26
      have T26 : Thg G26 (N + 1) (.ref p26) := .tup a26 (tha (thc .str (thc .int th0)) (thc tu (thc tv th0)))
      refine ixX_t (SqT.of at1) rfl ?_
      refine ⟨small5 (by simp), fun p27 hp27 => ?_⟩
      generalize g27 : upd G26 p27 _ = G27
      have a27 := new_at g27
      have sm27 := new_sm g27 hp27
      have at1 := sm27 _ _ at1
      have a23 := sm27 _ _ a23
      have a24 := sm27 _ _ a24
      have a25 := sm27 _ _ a25
      have a26 := sm27 _ _ a26
      have tp := tp.mono sm27
      have tu := tu.mono sm27
      have tv := tv.mono sm27
      have T26 := T26.mono sm27
      have L23 := thm L23 sm27
      have s0 := s0.trans sm27
      refine ⟨t, _, rfl, SqT.of at1, (by show ¬ (HT.sIx 4 0 (some (2)) = 0 ∧ HT.sIx 4 4 none = 4); decide), fun p28 hp28 => ?_⟩
      have e28 : cutV [V.str "name", .int (k : Nat), .ref u, .ref v] (some (2)) none = [.ref u, .ref v] := rfl
      rw [e28]
      generalize g28 : upd G27 p28 _ = G28
      have a28 := new_at g28
      have sm28 := new_sm g28 hp28
      have at1 := sm28 _ _ at1
      have a23 := sm28 _ _ a23
      have a24 := sm28 _ _ a24
      have a25 := sm28 _ _ a25
      have a26 := sm28 _ _ a26
      have a27 := sm28 _ _ a27
      have tp := tp.mono sm28
      have tu := tu.mono sm28
      have tv := tv.mono sm28
      have T26 := T26.mono sm28
      have L23 := thm L23 sm28
      have s0 := s0.trans sm28
      refine cat_any a27 a28 (by simp) (by simp) fun p29 G29 sm29 a29 => ?_
      have at1 := sm29 _ _ at1
      have a23 := sm29 _ _ a23
      have a24 := sm29 _ _ a24
      have a25 := sm29 _ _ a25
      have a26 := sm29 _ _ a26
      have a27 := sm29 _ _ a27
      have a28 := sm29 _ _ a28
      have tp := tp.mono sm29
      have tu := tu.mono sm29
      have tv := tv.mono sm29
      have T26 := T26.mono sm29
      have L23 := thm L23 sm29
      have s0 := s0.trans sm29
      have T29 : Thg G29 (N + 1) (.ref p29) := .tup a29 (tha (thc .str (thc .int th0)) (thc tu (thc tv th0)))
      refine ixX_t (SqT.of at1) rfl ?_
      refine ⟨⟨by decide, by decide, by decide⟩, ?_⟩
      refine ⟨small5 (by simp), fun p30 hp30 => ?_⟩
      generalize g30 : upd G29 p30 _ = G30
      have a30 := new_at g30
      have sm30 := new_sm g30 hp30
      have at1 := sm30 _ _ at1
      have a23 := sm30 _ _ a23
      have a24 := sm30 _ _ a24
      have a25 := sm30 _ _ a25
      have a26 := sm30 _ _ a26
      have a27 := sm30 _ _ a27
      have a28 := sm30 _ _ a28
      have a29 := sm30 _ _ a29
      have tp := tp.mono sm30
      have tu := tu.mono sm30
      have tv := tv.mono sm30
      have T26 := T26.mono sm30
      have T29 := T29.mono sm30
      have L23 := thm L23 sm30
      have s0 := s0.trans sm30
      refine ⟨t, _, rfl, SqT.of at1, (by show ¬ (HT.sIx 4 0 (some (2)) = 0 ∧ HT.sIx 4 4 none = 4); decide), fun p31 hp31 => ?_⟩
      have e31 : cutV [V.str "name", .int (k : Nat), .ref u, .ref v] (some (2)) none = [.ref u, .ref v] := rfl
      rw [e31]
      generalize g31 : upd G30 p31 _ = G31
      have a31 := new_at g31
      have sm31 := new_sm g31 hp31
      have at1 := sm31 _ _ at1
      have a23 := sm31 _ _ a23
      have a24 := sm31 _ _ a24
      have a25 := sm31 _ _ a25
      have a26 := sm31 _ _ a26
      have a27 := sm31 _ _ a27
      have a28 := sm31 _ _ a28
      have a29 := sm31 _ _ a29
      have a30 := sm31 _ _ a30
      have tp := tp.mono sm31
      have tu := tu.mono sm31
      have tv := tv.mono sm31
      have T26 := T26.mono sm31
      have T29 := T29.mono sm31
      have L23 := thm L23 sm31
      have s0 := s0.trans sm31
      refine cat_any a30 a31 (by simp) (by simp) fun p32 G32 sm32 a32 => ?_
      have at1 := sm32 _ _ at1
      have a23 := sm32 _ _ a23
      have a24 := sm32 _ _ a24
      have a25 := sm32 _ _ a25
      have a26 := sm32 _ _ a26
      have a27 := sm32 _ _ a27
      have a28 := sm32 _ _ a28
      have a29 := sm32 _ _ a29
      have a30 := sm32 _ _ a30
      have a31 := sm32 _ _ a31
      have tp := tp.mono sm32
      have tu := tu.mono sm32
      have tv := tv.mono sm32
      have T26 := T26.mono sm32
      have T29 := T29.mono sm32
      have L23 := thm L23 sm32
      have s0 := s0.trans sm32
      have T32 : Thg G32 (N + 1) (.ref p32) := .tup a32 (tha (thc .str (thc .int th0)) (thc tu (thc tv th0)))
      refine ⟨small5 (by simp), fun p33 hp33 => ?_⟩
      generalize g33 : upd G32 p33 _ = G33
      have a33 := new_at g33
      have sm33 := new_sm g33 hp33
      have at1 := sm33 _ _ at1
      have a23 := sm33 _ _ a23
      have a24 := sm33 _ _ a24
      have a25 := sm33 _ _ a25
      have a26 := sm33 _ _ a26
      have a27 := sm33 _ _ a27
      have a28 := sm33 _ _ a28
      have a29 := sm33 _ _ a29
      have a30 := sm33 _ _ a30
      have a31 := sm33 _ _ a31
      have a32 := sm33 _ _ a32
      have tp := tp.mono sm33
      have tu := tu.mono sm33
      have tv := tv.mono sm33
      have T26 := T26.mono sm33
      have T29 := T29.mono sm33
      have T32 := T32.mono sm33
      have L23 := thm L23 sm33
      have s0 := s0.trans sm33
      have L33 := lst_all (n := N + 1) a33 (thc T26 (thc T29 (thc T32 th0)))
      refine ⟨_, _, _, _, rfl, rfl, SqL.of a23, SqL.of a33, small5 (by first | (simp; done) | (simp; omega)), fun p34 hp34 => ?_⟩
      have ho34 := old_none s0 hp34
      generalize g34 : upd G33 p34 _ = G34
      have a34 := new_at g34
      have sm34 := new_sm g34 hp34
      have at1 := sm34 _ _ at1
      have a33 := sm34 _ _ a33
      have a23 := sm34 _ _ a23
      have tp := tp.mono sm34
      have tu := tu.mono sm34
      have tv := tv.mono sm34
      have L23 := thm L23 sm34
      have L33 := thm L33 sm34
      have s0 := s0.trans sm34
      have L34 := tha L23 L33
      (try walk_at "rd")
      intro p35 hp35
      refine ⟨upd_same, [(Sum.inr "one", .int 0)], rfl, by simp, ?_⟩
      generalize g35 : upd (upd G34 p35 _) p35 _ = G35
      have a35 := new_at g35
      have sm35 : Same G34 G35 := by rw [← g35]; exact (Same.new hp35).upd hp35
      have at1 := sm35 _ _ at1
      have a34 := sm35 _ _ a34
      have tp := tp.mono sm35
      have tu := tu.mono sm35
      have tv := tv.mono sm35
      have L34 := thm L34 sm35
      have s0 := s0.trans sm35
      refine ⟨small5 (by simp), fun p36 hp36 => ?_⟩
      generalize g36 : upd G35 p36 _ = G36
      have a36 := new_at g36
      have sm36 := new_sm g36 hp36
      have at1 := sm36 _ _ at1
      have a34 := sm36 _ _ a34
      have a35 := sm36 _ _ a35
      have tp := tp.mono sm36
      have tu := tu.mono sm36
      have tv := tv.mono sm36
      have L34 := thm L34 sm36
      have s0 := s0.trans sm36
      refine ⟨small5 (by simp), fun p37 hp37 => ?_⟩
      generalize g37 : upd G36 p37 _ = G37
      have a37 := new_at g37
      have sm37 := new_sm g37 hp37
      have at1 := sm37 _ _ at1
      have a34 := sm37 _ _ a34
      have a35 := sm37 _ _ a35
      have a36 := sm37 _ _ a36
      have tp := tp.mono sm37
      have tu := tu.mono sm37
      have tv := tv.mono sm37
      have L34 := thm L34 sm37
      have s0 := s0.trans sm37
      refine ⟨t, _, rfl, SqT.of at1, (by show ¬ (HT.sIx 4 0 (some (1)) = 0 ∧ HT.sIx 4 4 none = 4); decide), fun p38 hp38 => ?_⟩
      have e38 : cutV [V.str "name", .int (k : Nat), .ref u, .ref v] (some (1)) none = [.int (k : Nat), .ref u, .ref v] := rfl
      rw [e38]
      generalize g38 : upd G37 p38 _ = G38
      have a38 := new_at g38
      have sm38 := new_sm g38 hp38
      have at1 := sm38 _ _ at1
      have a34 := sm38 _ _ a34
      have a35 := sm38 _ _ a35
      have a36 := sm38 _ _ a36
      have a37 := sm38 _ _ a37
      have tp := tp.mono sm38
      have tu := tu.mono sm38
      have tv := tv.mono sm38
      have L34 := thm L34 sm38
      have s0 := s0.trans sm38
      refine cat_any a37 a38 (by simp) (by simp) fun p39 G39 sm39 a39 => ?_
      have at1 := sm39 _ _ at1
      have a34 := sm39 _ _ a34
      have a35 := sm39 _ _ a35
      have a36 := sm39 _ _ a36
      have a37 := sm39 _ _ a37
      have a38 := sm39 _ _ a38
      have tp := tp.mono sm39
      have tu := tu.mono sm39
      have tv := tv.mono sm39
      have L34 := thm L34 sm39
      have s0 := s0.trans sm39
      have T39 : Thg G39 (N + 1) (.ref p39) := .tup a39 (tha (thc (.lst a36) th0) (thc .int (thc tu (thc tv th0))))
      refine ⟨small5 (by simp), fun p40 hp40 => ?_⟩
      generalize g40 : upd G39 p40 _ = G40
      have a40 := new_at g40
      have sm40 := new_sm g40 hp40
      have at1 := sm40 _ _ at1
      have a34 := sm40 _ _ a34
      have a35 := sm40 _ _ a35
      have a36 := sm40 _ _ a36
      have a37 := sm40 _ _ a37
      have a38 := sm40 _ _ a38
      have a39 := sm40 _ _ a39
      have tp := tp.mono sm40
      have tu := tu.mono sm40
      have tv := tv.mono sm40
      have T39 := T39.mono sm40
      have L34 := thm L34 sm40
      have s0 := s0.trans sm40
      have T40 : Thg G40 (N + 1) (.ref p40) := .tup a40 (thc .str (thc .int th0))
      refine ⟨small5 (by simp), fun p41 hp41 => ?_⟩
      generalize g41 : upd G40 p41 _ = G41
      have a41 := new_at g41
      have sm41 := new_sm g41 hp41
      have at1 := sm41 _ _ at1
      have a34 := sm41 _ _ a34
      have a35 := sm41 _ _ a35
      have a36 := sm41 _ _ a36
      have a37 := sm41 _ _ a37
      have a38 := sm41 _ _ a38
      have a39 := sm41 _ _ a39
      have a40 := sm41 _ _ a40
      have tp := tp.mono sm41
      have tu := tu.mono sm41
      have tv := tv.mono sm41
      have T39 := T39.mono sm41
      have T40 := T40.mono sm41
      have L34 := thm L34 sm41
      have s0 := s0.trans sm41
      have T41 : Thg G41 (N + 1) (.ref p41) := .tup a41 (thc .str (thc .int th0))
      refine ⟨small5 (by simp), fun p42 hp42 => ?_⟩
      generalize g42 : upd G41 p42 _ = G42
      have a42 := new_at g42
      have sm42 := new_sm g42 hp42
      have at1 := sm42 _ _ at1
      have a34 := sm42 _ _ a34
      have a35 := sm42 _ _ a35
      have a36 := sm42 _ _ a36
      have a37 := sm42 _ _ a37
      have a38 := sm42 _ _ a38
      have a39 := sm42 _ _ a39
      have a40 := sm42 _ _ a40
      have a41 := sm42 _ _ a41
      have tp := tp.mono sm42
      have tu := tu.mono sm42
      have tv := tv.mono sm42
      have T39 := T39.mono sm42
      have T40 := T40.mono sm42
      have T41 := T41.mono sm42
      have L34 := thm L34 sm42
      have s0 := s0.trans sm42
      have T42 : Thg G42 (N + 1) (.ref p42) := .tup a42 (thc tp th0)
      refine ⟨small5 (by simp), fun p43 hp43 => ?_⟩
      generalize g43 : upd G42 p43 _ = G43
      have a43 := new_at g43
      have sm43 := new_sm g43 hp43
      have at1 := sm43 _ _ at1
      have a34 := sm43 _ _ a34
      have a35 := sm43 _ _ a35
      have a36 := sm43 _ _ a36
      have a37 := sm43 _ _ a37
      have a38 := sm43 _ _ a38
      have a39 := sm43 _ _ a39
      have a40 := sm43 _ _ a40
      have a41 := sm43 _ _ a41
      have a42 := sm43 _ _ a42
      have tp := tp.mono sm43
      have tu := tu.mono sm43
      have tv := tv.mono sm43
      have T39 := T39.mono sm43
      have T40 := T40.mono sm43
      have T41 := T41.mono sm43
      have T42 := T42.mono sm43
      have L34 := thm L34 sm43
      have s0 := s0.trans sm43
      have L43 := lst_all (n := N + 1) a43 (thc (.dct a35) (thc T39 (thc T40 (thc T41 (thc T42 th0)))))
      refine ⟨_, _, _, _, rfl, rfl, SqL.of a34, SqL.of a43, small5 (by first | (simp; done) | (simp; omega)), fun p44 hp44 => ?_⟩
      have ho44 := old_none s0 hp44
      generalize g44 : upd G43 p44 _ = G44
      have a44 := new_at g44
      have sm44 := new_sm g44 hp44
      have at1 := sm44 _ _ at1
      have a43 := sm44 _ _ a43
      have a34 := sm44 _ _ a34
      have tp := tp.mono sm44
      have tu := tu.mono sm44
      have tv := tv.mono sm44
      have L34 := thm L34 sm44
      have L43 := thm L43 sm44
      have s0 := s0.trans sm44
      have L44 := tha L34 L43
      refine tSeq_ifb.mpr (apTest (b := true) (fun R r => ?_) (iteT ?_))
      · (try walk_at "rd")
        exact ⟨_, .inr (SqT.of at1), by simpa using r⟩
      (try walk_at "rd")
      refine ixX_t (SqT.of at1) rfl ?_
      refine ixX_t (SqT.of at1) rfl ?_
      refine ixX_t (SqT.of at1) rfl ?_
      refine ixX_t (SqT.of at1) rfl ?_
      refine ⟨small5 (by simp), fun p45 hp45 => ?_⟩
      generalize g45 : upd G44 p45 _ = G45
      have a45 := new_at g45
      have sm45 := new_sm g45 hp45
      have at1 := sm45 _ _ at1
      have a44 := sm45 _ _ a44
      have tp := tp.mono sm45
      have tu := tu.mono sm45
      have tv := tv.mono sm45
      have L44 := thm L44 sm45
      have s0 := s0.trans sm45
      have T45 : Thg G45 (N + 1) (.ref p45) := .tup a45 (thc .str (thc .int (thc tv (thc tu th0))))
      refine ixX_t (SqT.of at1) rfl ?_
      refine ⟨t, _, rfl, SqT.of at1, (by show ¬ (HT.sIx 4 0 none = 0 ∧ HT.sIx 4 4 (some (2)) = 4); decide), fun p46 hp46 => ?_⟩
      have e46 : cutV [V.str "name", .int (k : Nat), .ref u, .ref v] none (some (2)) = [V.str "name", .int (k : Nat)] := rfl
      rw [e46]
      generalize g46 : upd G45 p46 _ = G46
      have a46 := new_at g46
      have sm46 := new_sm g46 hp46
      have at1 := sm46 _ _ at1
      have a44 := sm46 _ _ a44
      have a45 := sm46 _ _ a45
      have tp := tp.mono sm46
      have tu := tu.mono sm46
      have tv := tv.mono sm46
      have T45 := T45.mono sm46
      have L44 := thm L44 sm46
      have s0 := s0.trans sm46
      refine ixX_t (SqT.of at1) rfl ?_
      refine ixX_t (SqT.of at1) rfl ?_
      refine ⟨small5 (by simp), fun p47 hp47 => ?_⟩
      generalize g47 : upd G46 p47 _ = G47
      have a47 := new_at g47
      have sm47 := new_sm g47 hp47
      have at1 := sm47 _ _ at1
      have a44 := sm47 _ _ a44
      have a45 := sm47 _ _ a45
      have a46 := sm47 _ _ a46
      have tp := tp.mono sm47
      have tu := tu.mono sm47
      have tv := tv.mono sm47
      have T45 := T45.mono sm47
      have L44 := thm L44 sm47
      have s0 := s0.trans sm47
      refine cat_any a46 a47 (by simp) (by simp) fun p48 G48 sm48 a48 => ?_
      have at1 := sm48 _ _ at1
      have a44 := sm48 _ _ a44
      have a45 := sm48 _ _ a45
      have a46 := sm48 _ _ a46
      have a47 := sm48 _ _ a47
      have tp := tp.mono sm48
      have tu := tu.mono sm48
      have tv := tv.mono sm48
      have T45 := T45.mono sm48
      have L44 := thm L44 sm48
      have s0 := s0.trans sm48
      have T48 : Thg G48 (N + 1) (.ref p48) := .tup a48 (tha (thc .str (thc .int th0)) (thc tv (thc tv th0)))
      refine ⟨small5 (by simp), fun p49 hp49 => ?_⟩
      generalize g49 : upd G48 p49 _ = G49
      have a49 := new_at g49
      have sm49 := new_sm g49 hp49
      have at1 := sm49 _ _ at1
      have a44 := sm49 _ _ a44
      have a45 := sm49 _ _ a45
      have a46 := sm49 _ _ a46
      have a47 := sm49 _ _ a47
      have a48 := sm49 _ _ a48
      have tp := tp.mono sm49
      have tu := tu.mono sm49
      have tv := tv.mono sm49
      have T45 := T45.mono sm49
      have T48 := T48.mono sm49
      have L44 := thm L44 sm49
      have s0 := s0.trans sm49
      have L49 := lst_all (n := N + 1) a49 (thc T45 (thc (tu.up (Nat.le_succ _)) (thc T48 th0)))
      refine ⟨_, _, _, _, rfl, rfl, SqL.of a44, SqL.of a49, small5 (by first | (simp; done) | (simp; omega)), fun p50 hp50 => ?_⟩
      have ho50 := old_none s0 hp50
      generalize g50 : upd G49 p50 _ = G50
      have a50 := new_at g50
      have sm50 := new_sm g50 hp50
      have at1 := sm50 _ _ at1
      have a49 := sm50 _ _ a49
      have a44 := sm50 _ _ a44
      have tp := tp.mono sm50
      have tu := tu.mono sm50
      have tv := tv.mono sm50
      have L44 := thm L44 sm50
      have L49 := thm L49 sm50
      have s0 := s0.trans sm50
      have L50 := tha L44 L49
      (try walk_at "rd")
      refine ⟨tyV_list a50, ?_⟩
      refine ⟨t, _, rfl, SqT.of at1, (by show ¬ (HT.sIx 4 0 none = 0 ∧ HT.sIx 4 4 (some (3)) = 4); decide), fun p51 hp51 => ?_⟩
      have e51 : cutV [V.str "name", .int (k : Nat), .ref u, .ref v] none (some (3)) = [V.str "name", .int (k : Nat), .ref u] := rfl
      rw [e51]
      generalize g51 : upd G50 p51 _ = G51
      have a51 := new_at g51
      have sm51 := new_sm g51 hp51
      have at1 := sm51 _ _ at1
      have a50 := sm51 _ _ a50
      have tp := tp.mono sm51
      have tu := tu.mono sm51
      have tv := tv.mono sm51
      have L50 := thm L50 sm51
      have s0 := s0.trans sm51
      refine ixX_t (SqT.of at1) rfl ?_
      refine ⟨small5 (by simp), fun p52 hp52 => ?_⟩
      generalize g52 : upd G51 p52 _ = G52
      have a52 := new_at g52
      have sm52 := new_sm g52 hp52
      have at1 := sm52 _ _ at1
      have a50 := sm52 _ _ a50
      have a51 := sm52 _ _ a51
      have tp := tp.mono sm52
      have tu := tu.mono sm52
      have tv := tv.mono sm52
      have L50 := thm L50 sm52
      have s0 := s0.trans sm52
      refine cat_any a51 a52 (by simp) (by simp) fun p53 G53 sm53 a53 => ?_
      have at1 := sm53 _ _ at1
      have a50 := sm53 _ _ a50
      have a51 := sm53 _ _ a51
      have a52 := sm53 _ _ a52
      have tp := tp.mono sm53
      have tu := tu.mono sm53
      have tv := tv.mono sm53
      have L50 := thm L50 sm53
      have s0 := s0.trans sm53
      have T53 : Thg G53 (N + 1) (.ref p53) := .tup a53 (tha (thc .str (thc .int (thc tu th0))) (thc tu th0))
      refine ⟨_, _, _, rfl, rfl, a50, small5' (by simp), ?_⟩
      refine pick_any (n := N + 1) upd_same (by simp) (tha (fun x hx => (L50 x hx).monoX a50 upd_same SamX.upd) (thc (T53.monoX a50 upd_same SamX.upd) th0)) fun x tx => ?_
      exact q x _ (s0.upd ho50) tx
abbrev s__law_bent : Stmt := top 18
theorem sc__law_bent : FnScope ["_law_script", "_law_paper", "_law_deep", "_law_cell", "_law_at_here"] ["_law_script", "_law_paper", "_law_deep"] (defScope s__law_bent) := ⟨rfl, rfl, rfl, by decide +kernel, rfl, by decide +kernel, by decide +kernel⟩
def spBent (K : PySem.W.Frag) : Nat → Sp
  | 0 => fun vs H Q _ => ∃ x1 x2 x3, vs = [x1, x2, x3] ∧ False
  | n + 1 => fun vs H Q _ => ∃ x1 x2 x3, vs = [x1, x2, x3] ∧ ∃ (a : Addr) (ns : List Int) (t : Addr) (P : Tre) (d : Nat), x1 = .ref a ∧ SqL K H a (ns.map V.int) ∧ ns.length ≤ 63 ∧ x2 = .ref t ∧ Rep H P t ∧ bnd 1000 P ∧ x3 = .int (d : Nat) ∧ d ≤ 8 ∧ hgt P ≤ n ∧ ∀ (v : V) (H' : Hp), Same H H' → Thg H' (hgt P + 1) v → Q v H'
set_option maxHeartbeats 4000000 in
theorem ok__law_bent {f : Addr} {fd : FuncData} (F : Fun K "_law_bent" "_law_bent" s__law_bent f fd) (T : Txt mg) {f__law_at : Addr} {fd__law_at : FuncData} (C__law_at : Cal P w K mg base "_law_at" 1 ["_law_script", "_law_k"] (spCell K) f__law_at fd__law_at) {f__law_odd : Addr} {fd__law_odd : FuncData} (C__law_odd : Cal P w K mg base "_law_odd" 1 ["_law_paper", "_law_cell"] (spOdd K) f__law_odd fd__law_odd) (n : Nat) (C__law_bent : Cal P w K mg base "_law_bent" (2 + n) ["_law_script", "_law_paper", "_law_deep"] (spBent K n) f fd) : FnOk P w K mg base CX0 (2 + n + 1) f fd ["_law_script", "_law_paper", "_law_deep"] (spBent K (n + 1)) := by
  have sc := sc__law_bent
  refine F.ok sc__law_bent (fun vs H Q E h => ?_) (fun cdv A outer s H vs Q E hr h => ?_)
  · obtain ⟨_, _, _, rfl, _⟩ := h
    rfl
  · obtain ⟨x0, x1, x2, rfl, h⟩ := h
    refine ⟨_, (pss_cons (ps_set (i := 3) sc.nd rfl (Or.inl rfl) (pe_cal C__law_at hr (by omega) (by rfl) (pa_cons (pv 0) (pa_cons (pe_op op_add pe_int (pv 2)) pa_nil))))
      (pss_cons (ps_if (PW.pt (pw_and (pt_cmpR (op_eqK (K := K) rfl hr.units0) (pe_callB (call_lenK (K := K) rfl) (by rfl) T.n_len PySem.boot_len (pa_cons (pv 1) pa_nil)) pe_int (nomark _)) (pw_and (pt_cmpR op_lt (pv 2) pe_int (nomark _)) (pw_and1 (pt_cmpR op_gt (pe_op op_mod (pv 3) pe_int) pe_int (nomark _)))))) (pss_cons (ps_set (i := 4) sc.nd rfl (Or.inl rfl) (pe_op op_add pe_int (pe_op op_mod (pe_op op_fdivB (pv 3) pe_int) pe_int)))
      (pss_one (ps_ret (pe_op op_catT (pe_op op_catT (pe_slice (sl_tupK (K := K) rfl) (pv 1) po_none (po_some (pv 4))) (pe_tup (pa_cons (pe_cal C__law_bent hr (by omega) (by rfl) (pa_cons (pv 0) (pa_cons (pe_ix (ix_K (K := K) rfl) (pv 1) (pv 4) (fun _ _ => rfl)) (pa_cons (pe_op op_add (pv 2) pe_int) pa_nil)))) pa_nil))) (pe_slice (sl_tupK (K := K) rfl) (pv 1) (po_some (pe_op op_add (pv 4) pe_int)) po_none))))) pss_nil)
      (pss_one (ps_ret (pe_cal C__law_odd hr (by omega) (by rfl) (pa_cons (pv 1) (pa_cons (pe_op op_fdivB (pv 3) pe_int) pa_nil))))))), ?_⟩
    refine rdg (σ' := [some x0, some x1, some x2, none, none]) rfl ?_
    obtain ⟨a, ns, t, P, d, rfl, hS, hl, rfl, hR, hB, rfl, hd, hn, q⟩ := h
    walk_at "rd"
    refine ⟨_, _, rfl, a, ns, 40 + d, rfl, hS, hl, by simp, by omega, fun c => ?_⟩
    (try walk_at "rd")
    cases hR with
    | @leaf _ oo k at1 =>
      refine tSeq_ifb.mpr ?_
      (try walk_at "rd")
      refine ⟨_, .inr (SqT.of at1), ?_⟩
      rw [if_neg (by simp)]
      exact ⟨⟨by decide, by decide⟩, _, _, rfl, t, .leaf oo k, c / 8, rfl, .leaf at1, hB, rfl, q⟩
    | @name _ u v k l r at1 R1 R2 =>
      have hh : max (hgt l) (hgt r) + 1 ≤ n := hn
      obtain ⟨n', rfl⟩ : ∃ n', n = n' + 1 := ⟨n - 1, by omega⟩
      have tu : Thg H (hgt (.name k l r)) (.ref u) := R1.thg.up (by simp only [hgt]; omega)
      have tv : Thg H (hgt (.name k l r)) (.ref v) := R2.thg.up (by simp only [hgt]; omega)
      refine tSeq_ifb.mpr ?_
      (try walk_at "rd")
      refine ⟨_, .inr (SqT.of at1), ?_⟩
      rw [if_pos (by simp)]
      by_cases c7 : d < 7
      · rw [if_pos (by omega)]
        refine ⟨by decide, ite2 (fun h4 => ?_) fun h4 => ⟨⟨by decide, by decide⟩, _, _, rfl, t, .name k l r, c / 8, rfl, .name at1 R1 R2, hB, rfl, q⟩⟩
        have hc : c / 4 % 2 = 0 ∨ c / 4 % 2 = 1 := by omega
        rcases hc with z | z
        · rw [z]
          rw [show (2 : Int) + 0 + 1 = ((3 : Nat) : Int) from rfl, show (2 : Int) + 0 = ((2 : Nat) : Int) from rfl]
          refine ⟨⟨by decide, by decide⟩, by decide, ?_⟩
          refine ⟨t, _, rfl, SqT.of at1, (by show ¬ (HT.sIx 4 0 none = 0 ∧ HT.sIx 4 4 (some 2) = 4); decide), fun p4 hp4 => ?_⟩
          have e4 : cutV [V.str "name", .int (k : Nat), .ref u, .ref v] none (some ((2 : Nat) : Int)) = [.str "name", .int (k : Nat)] := cut_take _ 2
          rw [e4]
          generalize g4 : upd H p4 _ = G4
          have a4 := new_at g4
          have s4 := new_sm g4 hp4
          have at1 := s4 _ _ at1
          refine ixX_t (SqT.of at1) (atI_nat rfl) ?_
          refine ⟨_, _, _, rfl, a, ns, u, l, d + 1, rfl, s4.seq hS, hl, rfl, R1.mono s4, hB.2.1, by simp, by omega, by omega, fun y G5 s5 T5 => ?_⟩
          have at1 := s5 _ _ at1
          have a4 := s5 _ _ a4
          refine ⟨small5 (by simp), fun p6 hp6 => ?_⟩
          generalize g6 : upd G5 p6 _ = G6
          have a6 := new_at g6
          have s6 := new_sm g6 hp6
          have at1 := s6 _ _ at1
          have a4 := s6 _ _ a4
          have T5 := T5.mono s6
          refine cat_any a4 a6 (by simp) (by simp) fun p7 G7 s7 a7 => ?_
          have at1 := s7 _ _ at1
          have T5 := T5.mono s7
          refine ⟨t, _, rfl, SqT.of at1, (by show ¬ (HT.sIx 4 0 (some 3) = 0 ∧ HT.sIx 4 4 none = 4); decide), fun p8 hp8 => ?_⟩
          have e8 : cutV [V.str "name", .int (k : Nat), .ref u, .ref v] (some ((3 : Nat) : Int)) none = [.ref v] := cut_drop _ 3
          rw [e8]
          generalize g8 : upd G7 p8 _ = G8
          have a8 := new_at g8
          have s8 := new_sm g8 hp8
          have a7 := s8 _ _ a7
          have T5 := T5.mono s8
          refine cat_any a7 a8 (by simp) (by simp) fun p9 G9 s9 a9 => ?_
          have T5 := T5.mono s9
          have sA := ((((s4.trans s5).trans s6).trans s7).trans s8).trans s9
          have tu := tu.mono sA
          have tv := tv.mono sA
          have T5 := T5.up (show _ ≤ hgt (.name k l r) by simp only [hgt]; omega)
          exact q _ _ sA (.tup a9 (tha (tha (thc .str (thc .int th0)) (thc T5 th0)) (thc tv th0)))
        · rw [z]
          rw [show (2 : Int) + 1 + 1 = ((4 : Nat) : Int) from rfl, show (2 : Int) + 1 = ((3 : Nat) : Int) from rfl]
          refine ⟨⟨by decide, by decide⟩, by decide, ?_⟩
          refine ⟨t, _, rfl, SqT.of at1, (by show ¬ (HT.sIx 4 0 none = 0 ∧ HT.sIx 4 4 (some 3) = 4); decide), fun p4 hp4 => ?_⟩
          have e4 : cutV [V.str "name", .int (k : Nat), .ref u, .ref v] none (some ((3 : Nat) : Int)) = [.str "name", .int (k : Nat), .ref u] := cut_take _ 3
          rw [e4]
          generalize g4 : upd H p4 _ = G4
          have a4 := new_at g4
          have s4 := new_sm g4 hp4
          have at1 := s4 _ _ at1
          refine ixX_t (SqT.of at1) (atI_nat rfl) ?_
          refine ⟨_, _, _, rfl, a, ns, v, r, d + 1, rfl, s4.seq hS, hl, rfl, R2.mono s4, hB.2.2, by simp, by omega, by omega, fun y G5 s5 T5 => ?_⟩
          have at1 := s5 _ _ at1
          have a4 := s5 _ _ a4
          refine ⟨small5 (by simp), fun p6 hp6 => ?_⟩
          generalize g6 : upd G5 p6 _ = G6
          have a6 := new_at g6
          have s6 := new_sm g6 hp6
          have at1 := s6 _ _ at1
          have a4 := s6 _ _ a4
          have T5 := T5.mono s6
          refine cat_any a4 a6 (by simp) (by simp) fun p7 G7 s7 a7 => ?_
          have at1 := s7 _ _ at1
          have T5 := T5.mono s7
          refine ⟨t, _, rfl, SqT.of at1, (by show ¬ (HT.sIx 4 0 (some 4) = 0 ∧ HT.sIx 4 4 none = 4); decide), fun p8 hp8 => ?_⟩
          have e8 : cutV [V.str "name", .int (k : Nat), .ref u, .ref v] (some ((4 : Nat) : Int)) none = [] := cut_drop _ 4
          rw [e8]
          generalize g8 : upd G7 p8 _ = G8
          have a8 := new_at g8
          have s8 := new_sm g8 hp8
          have a7 := s8 _ _ a7
          have T5 := T5.mono s8
          refine cat_any a7 a8 (by simp) (by simp) fun p9 G9 s9 a9 => ?_
          have T5 := T5.mono s9
          have sA := ((((s4.trans s5).trans s6).trans s7).trans s8).trans s9
          have tu := tu.mono sA
          have tv := tv.mono sA
          have T5 := T5.up (show _ ≤ hgt (.name k l r) by simp only [hgt]; omega)
          exact q _ _ sA (.tup a9 (tha (tha (thc .str (thc .int (thc tu th0))) (thc T5 th0)) th0))
      · rw [if_neg (by omega)]
        exact ⟨⟨by decide, by decide⟩, _, _, rfl, t, .name k l r, c / 8, rfl, .name at1 R1 R2, hB, rfl, q⟩
theorem z__law_bent {f : Addr} {fd : FuncData} (F : Fun K "_law_bent" "_law_bent" s__law_bent f fd) : FnOk P w K mg base CX0 (2 + 0) f fd ["_law_script", "_law_paper", "_law_deep"] (spBent K 0) := by
  refine F.ok (k := 1) sc__law_bent (fun vs H Q E h => ?_) (fun cdv A outer s H vs Q E hr h => ?_)
  · obtain ⟨_, _, _, rfl, h⟩ := h
    exact absurd h id
  · obtain ⟨_, _, _, rfl, h⟩ := h
    exact absurd h id
abbrev s__law_good : Stmt := top 20
theorem sc__law_good : FnScope ["_law_many", "_law_families", "_law_paper", "_law_taken_in", "_law_taken_out", "_law_k", "_law_family_here", "_law_taken"] ["_law_many", "_law_families", "_law_paper", "_law_taken_in", "_law_taken_out"] (defScope s__law_good) := ⟨rfl, rfl, rfl, by decide +kernel, rfl, by decide +kernel, by decide +kernel⟩
theorem gdT_len {H : Hp} {m : Nat} {fs gs : List Nat} {n : Nat} {a : Addr} {xs : List V} {ti to : Nat} (h : H a = some (.tup xs)) (h2 : xs.length ≠ 2) (h4 : xs.length ≠ 4) : gdT H m fs gs (n + 1) (.ref a) ti to = false := by
  rw [gdT_tup h]
  unfold gdL
  split
  · exact absurd rfl h2
  · exact absurd rfl h4
  · rfl
def spGood (K : PySem.W.Frag) : Nat → Sp
  | 0 => fun vs H Q _ => ∃ x1 x2 x3 x4 x5, vs = [x1, x2, x3, x4, x5] ∧ False
  | n + 1 => fun vs H Q _ => ∃ x1 x2 x3 x4 x5, vs = [x1, x2, x3, x4, x5] ∧ ∃ (m : Nat) (pf p1 p2 : Addr) (fs gs : List Nat) (v : V) (ti to : Nat) (H0 : Hp), x1 = .int (m : Nat) ∧ m ≤ 8 ∧ x2 = .ref pf ∧ H pf = some (.lst [.ref p1, .ref p2]) ∧ H p1 = some (.lst (nV fs)) ∧ H p2 = some (.lst (nV gs)) ∧ x3 = v ∧ Same H0 H ∧ Thg H0 n v ∧ x4 = .int (ti : Nat) ∧ x5 = .int (to : Nat) ∧ ∀ H', Same H H' → Q (.bl (gdT H0 m fs gs n v ti to)) H'
set_option maxHeartbeats 4000000 in
theorem ok__law_good {f : Addr} {fd : FuncData} (F : Fun K "_law_good" "_law_good" s__law_good f fd) (T : Txt mg) {f__law_whole : Addr} {fd__law_whole : FuncData} (C__law_whole : Cal P w K mg base "_law_whole" 1 ["_law_thing"] spLWhole f__law_whole fd__law_whole) (n : Nat) (C__law_good : Cal P w K mg base "_law_good" (2 + n) ["_law_many", "_law_families", "_law_paper", "_law_taken_in", "_law_taken_out"] (spGood K n) f fd) : FnOk P w K mg base CX0 (2 + n + 1) f fd ["_law_many", "_law_families", "_law_paper", "_law_taken_in", "_law_taken_out"] (spGood K (n + 1)) := by
  have sc := sc__law_good
  refine F.ok sc__law_good (fun vs H Q E h => ?_) (fun cdv A outer s H vs Q E hr h => ?_)
  · obtain ⟨_, _, _, _, _, rfl, _⟩ := h
    rfl
  · obtain ⟨x0, x1, x2, x3, x4, rfl, h⟩ := h
    refine ⟨_, (pss_cons (ps_if (PW.pt (pw_or (pt_not (pt_val (pe_callB call_isinst (by rfl) T.n_isinstance PyProof.Rows.boot_isinstance (pa_cons (pv 2) (pa_cons (pe_bltn (v := .ty "tuple") (by rfl) T.n_tuple PyProof.Rows.boot_tuple rfl) pa_nil))))) (pw_or (pt_cmpR (op_notInK (K := K) rfl) (pe_callB (call_lenK (K := K) rfl) (by rfl) T.n_len PySem.boot_len (pa_cons (pv 2) pa_nil)) (pe_tup (pa_cons pe_int (pa_cons pe_int pa_nil))) (by with_unfolding_all rfl)) (pw_or1 (pt_not (pt_val (pe_callB call_isinst (by rfl) T.n_isinstance PyProof.Rows.boot_isinstance (pa_cons (pe_ix (ix_K (K := K) rfl) (pv 2) pe_int (fun _ _ => rfl)) (pa_cons (pe_bltn (v := .ty "str") (by rfl) T.n_str PyProof.Rows.boot_str rfl) pa_nil))))))))) (pss_one (ps_ret pe_bl)) pss_nil)
      (pss_cons (ps_set (i := 5) sc.nd rfl (Or.inl rfl) (pe_ix (ix_K (K := K) rfl) (pv 2) pe_int (fun _ _ => rfl)))
      (pss_cons (ps_if (PW.pt (pw_or (pt_not (pt_val (pe_cal C__law_whole hr (by omega) (by rfl) (pa_cons (pv 5) pa_nil)))) (pw_or1 (pt_cmpR op_lt (pv 5) pe_int (nomark _))))) (pss_one (ps_ret pe_bl)) pss_nil)
      (pss_cons (ps_if (pt_cmpR (op_eqK (K := K) rfl hr.units0) (pe_callB (call_lenK (K := K) rfl) (by rfl) T.n_len PySem.boot_len (pa_cons (pv 2) pa_nil)) pe_int (nomark _)) (pss_cons (ps_if (pt_cmpR (op_notInK (K := K) rfl) (pe_ix (ix_K (K := K) rfl) (pv 2) pe_int (fun _ _ => rfl)) (pe_tup (pa_cons pe_str (pa_cons pe_str pa_nil))) (by with_unfolding_all rfl)) (pss_one (ps_ret pe_bl)) pss_nil)
      (pss_cons (ps_set (i := 6) sc.nd rfl (Or.inl rfl) (pe_ix (ix_K (K := K) rfl) (pv 1) (pe_callTy call_int1 (by rfl) T.n_int PyProof.Rows.boot_int (pa_cons (pe_cmpR (op_eqK (K := K) rfl hr.units0) (pe_ix (ix_K (K := K) rfl) (pv 2) pe_int (fun _ _ => rfl)) pe_str (nomark _)) pa_nil)) (fun _ _ => rfl)))
      (pss_cons (ps_set (i := 7) sc.nd rfl (Or.inl rfl) (pe_ix (ix_K (K := K) rfl) (pe_lst (pa_cons (pv 3) (pa_cons (pv 4) pa_nil))) (pe_callTy call_int1 (by rfl) T.n_int PyProof.Rows.boot_int (pa_cons (pe_cmpR (op_eqK (K := K) rfl hr.units0) (pe_ix (ix_K (K := K) rfl) (pv 2) pe_int (fun _ _ => rfl)) pe_str (nomark _)) pa_nil)) (fun _ _ => rfl)))
      (pss_one (ps_ret (pe_and (pe_cmpR op_lt (pv 5) (pe_callB (call_lenK (K := K) rfl) (by rfl) T.n_len PySem.boot_len (pa_cons (pv 6) pa_nil)) (nomark _)) (pe_one (pe_cmpR (op_eqK (K := K) rfl hr.units0) (pe_op op_and (pe_ix (ix_K (K := K) rfl) (pv 6) (pv 5) (fun _ _ => rfl)) (pv 7)) (pe_ix (ix_K (K := K) rfl) (pv 6) (pv 5) (fun _ _ => rfl)) (nomark _))))))))) pss_nil)
      (pss_cons (ps_if (PW.pt (pw_or (pt_cmpR (op_neK (K := K) rfl hr.units0) (pe_ix (ix_K (K := K) rfl) (pv 2) pe_int (fun _ _ => rfl)) pe_str (nomark _)) (pw_or (pt_cmpR op_ge (pv 5) (pv 0) (nomark _)) (pw_or1 (pt_cmpR (op_eqK (K := K) rfl hr.units0) (pe_op op_and (pe_op op_shr (pe_op op_or (pv 3) (pv 4)) (pv 5)) pe_int) pe_int (nomark _)))))) (pss_one (ps_ret pe_bl)) pss_nil)
      (pss_cons (ps_if (pt_not (pt_val (pe_cal C__law_good hr (by omega) (by rfl) (pa_cons (pv 0) (pa_cons (pv 1) (pa_cons (pe_ix (ix_K (K := K) rfl) (pv 2) pe_int (fun _ _ => rfl)) (pa_cons (pe_op op_or (pv 3) (pe_op op_shl pe_int (pv 5))) (pa_cons (pv 4) pa_nil)))))))) (pss_one (ps_ret pe_bl)) pss_nil)
      (pss_one (ps_ret (pe_cal C__law_good hr (by omega) (by rfl) (pa_cons (pv 0) (pa_cons (pv 1) (pa_cons (pe_ix (ix_K (K := K) rfl) (pv 2) pe_int (fun _ _ => rfl)) (pa_cons (pv 3) (pa_cons (pe_op op_or (pv 4) (pe_op op_shl pe_int (pv 5))) pa_nil)))))))))))))), ?_⟩
    refine rdg (σ' := [some x0, some x1, some x2, some x3, some x4, none, none, none]) rfl ?_
    obtain ⟨m, pf, p1, p2, fs, gs, v, ti, to, H0, rfl, hm, rfl, f0, f1, f2, rfl, s0, hT, rfl, rfl, q⟩ := h
    walk_at "rd"
    cases hT with
    | flat h hw =>
      rw [gdT_flat h hw] at q
      refine ⟨_, "tuple", ⟨rfl, rfl⟩, _, kd_same s0 h, by decide, ?_⟩
      rw [kd_no hw, if_pos (by decide)]
      exact q _ (Same.refl _)
    | @tup n a xs at0 hx =>
      have at1 := s0 _ _ at0
      refine ⟨_, "tuple", ⟨rfl, rfl⟩, "tuple", kd_tup at1, by decide, ?_⟩
      rw [if_neg (by decide)]
      (try walk_at "rd")
      refine ⟨_, .inr (SqT.of at1), small5 (by simp), fun pz hpz => ?_⟩
      generalize gz : upd H pz _ = Gz
      have az := new_at gz
      have sz := new_sm gz hpz
      have at1 := sz _ _ at1
      have f0 := sz _ _ f0
      have f1 := sz _ _ f1
      have f2 := sz _ _ f2
      refine ⟨_, .inr (SqT.of az), rfl, rfl, ?_⟩
      by_cases c2 : xs.length = 2 ∨ xs.length = 4
      rotate_left
      · rw [gdT_len at0 (fun z => c2 (.inl z)) (fun z => c2 (.inr z))] at q
        refine ⟨true, ?_, iteT (q _ sz)⟩
        simp only [inV, eqV, List.any_cons, List.any_nil]
        simp
        omega
      refine ⟨false, ?_, iteF ?_⟩
      · simp only [inV, eqV, List.any_cons, List.any_nil]
        simp
        omega
      obtain ⟨x, y, r, rfl⟩ : ∃ x y r, xs = x :: y :: r := by
        match xs, c2 with
        | x :: y :: r, _ => exact ⟨x, y, r, rfl⟩
        | [], c2 => simp at c2
        | [x], c2 => simp at c2
      obtain ⟨w0, k0⟩ := ((hx x (by simp)).mono (s0.trans sz)).kind
      obtain ⟨w1, k1⟩ := ((hx y (by simp)).mono (s0.trans sz)).kind
      have nob : (isS x && isI y) = false → gdT H0 m fs gs (n + 1) (.ref a) ti to = false := fun z => gdT_not (by rw [bgn_tup at0]; exact z)
      refine ixX_t (SqT.of at1) (show atI (x :: y :: r) ((0 : Nat) : Int) = some x from atI_nat rfl) ⟨_, "str", ⟨rfl, rfl⟩, w0, k0, by decide, ?_⟩
      rw [kd_str k0]
      cases h0 : isS x with
      | false =>
        rw [nob (by rw [h0]; rfl)] at q
        rw [if_pos (by decide)]
        exact q _ sz
      | true =>
        rw [if_neg (by decide)]
        refine ixX_t (SqT.of at1) (show atI (x :: y :: r) ((1 : Nat) : Int) = some y from atI_nat rfl) ?_
        (try walk_at "rd")
        refine ⟨_, rfl, w1, k1, ?_⟩
        cases h1 : isI y with
        | false =>
          rw [nob (by rw [h1, Bool.and_false])] at q
          refine ⟨false, rfl, ?_⟩
          rw [if_pos (by decide)]
          exact q _ sz
        | true =>
          refine ⟨true, rfl, ?_⟩
          rw [if_neg (by decide)]
          obtain ⟨w, rfl⟩ := isS_eq h0
          obtain ⟨k, rfl⟩ := isI_eq h1
          (try walk_at "rd")
          by_cases ck : k < 0
          · rw [if_pos ck]
            have e : gdT H0 m fs gs (n + 1) (.ref a) ti to = false := by
              rw [gdT_tup at0]
              have n0 : ¬ 0 ≤ k := by omega
              unfold gdL
              split
              · rename_i e1
                cases e1
                unfold tkI
                simp [n0]
              · rename_i e1
                cases e1
                unfold frI
                simp [n0]
              · rfl
            rw [e] at q
            exact q _ sz
          rw [if_neg ck]
          obtain ⟨j, rfl⟩ := Int.eq_ofNat_of_zero_le (show 0 ≤ k by omega)
          refine tSeq_ifb.mpr ?_
          (try walk_at "rd")
          refine ⟨_, .inr (SqT.of at1), ?_⟩
          rw [gdT_tup at0] at q
          match r, c2, at0, at1, hx, q with
          | [], c2, at0, at1, hx, q =>
            have q : ∀ H', Same H H' → Q (.bl (if w = "one" then tkI fs (j : Nat) ti else if w = "other" then tkI gs (j : Nat) to else false)) H' := q
            rw [if_pos (by simp)]
            refine ixX_t (SqT.of at1) rfl ⟨small5 (by simp), fun py hpy => ?_⟩
            generalize gy : upd Gz py _ = Gy
            have ay := new_at gy
            have sy := new_sm gy hpy
            have at1 := sy _ _ at1
            have f0 := sy _ _ f0
            have f1 := sy _ _ f1
            have f2 := sy _ _ f2
            by_cases c1 : w = "one"
            · subst c1
              rw [if_pos rfl] at q
              refine ⟨_, .inr (SqT.of ay), rfl, rfl, false, by decide, iteF ?_⟩
              refine ixX_t (SqT.of at1) rfl (eqS false (by decide) (.inr ⟨false, rfl, ?_⟩))
              refine ixX_l (SqL.of f0) rfl ⟨small5 (by simp), fun px hpx => ?_⟩
              generalize gx : upd Gy px _ = Gx
              have ax := new_at gx
              have sx := new_sm gx hpx
              have at1 := sx _ _ at1
              have f1 := sx _ _ f1
              have f2 := sx _ _ f2
              refine ixX_t (SqT.of at1) rfl (eqS false (by decide) (.inr ⟨false, rfl, ?_⟩))
              refine ixX_l (SqL.of ax) rfl ⟨p1, rfl, _, .inl (SqL.of f1), ?_⟩
              have sA := (sz.trans sy).trans sx
              have et : tkI fs (j : Nat) ti = tak fs j ti := by unfold tkI; simp
              rw [nV_len]
              by_cases hj : j < fs.length
              · rw [if_pos (by omega)]
                have e := List.getElem?_eq_getElem hj
                refine ixX_l (SqL.of f1) (atI_n e) ?_
                rw [rI0_i, and_nat]
                refine ixX_l (SqL.of f1) (atI_n e) ?_
                rw [rEqX_i]
                have e2 : decide (((fs[j] &&& ti : Nat) : Int) = (fs[j] : Int)) = tkI fs (j : Nat) ti := by
                  rw [et]
                  unfold tak
                  rw [e]
                  refine decide_eq_decide.mpr ?_
                  unfold Fam.sub
                  rw [Nat.and_comm]
                  omega
                rw [e2]
                exact q _ sA
              · rw [if_neg (by omega)]
                have e2 : tkI fs (j : Nat) ti = false := by
                  rw [et]
                  unfold tak
                  rw [List.getElem?_eq_none (by omega)]
                rw [e2] at q
                exact q _ sA
            by_cases c3 : w = "other"
            · subst c3
              rw [if_neg (by decide), if_pos rfl] at q
              refine ⟨_, .inr (SqT.of ay), rfl, rfl, false, by decide, iteF ?_⟩
              refine ixX_t (SqT.of at1) rfl (eqS true (by decide) (.inr ⟨true, rfl, ?_⟩))
              refine ixX_l (SqL.of f0) rfl ⟨small5 (by simp), fun px hpx => ?_⟩
              generalize gx : upd Gy px _ = Gx
              have ax := new_at gx
              have sx := new_sm gx hpx
              have at1 := sx _ _ at1
              have f1 := sx _ _ f1
              have f2 := sx _ _ f2
              refine ixX_t (SqT.of at1) rfl (eqS true (by decide) (.inr ⟨true, rfl, ?_⟩))
              refine ixX_l (SqL.of ax) rfl ⟨p2, rfl, _, .inl (SqL.of f2), ?_⟩
              have sA := (sz.trans sy).trans sx
              have et : tkI gs (j : Nat) to = tak gs j to := by unfold tkI; simp
              rw [nV_len]
              by_cases hj : j < gs.length
              · rw [if_pos (by omega)]
                have e := List.getElem?_eq_getElem hj
                refine ixX_l (SqL.of f2) (atI_n e) ?_
                rw [rI0_i, and_nat]
                refine ixX_l (SqL.of f2) (atI_n e) ?_
                rw [rEqX_i]
                have e2 : decide (((gs[j] &&& to : Nat) : Int) = (gs[j] : Int)) = tkI gs (j : Nat) to := by
                  rw [et]
                  unfold tak
                  rw [e]
                  refine decide_eq_decide.mpr ?_
                  unfold Fam.sub
                  rw [Nat.and_comm]
                  omega
                rw [e2]
                exact q _ sA
              · rw [if_neg (by omega)]
                have e2 : tkI gs (j : Nat) to = false := by
                  rw [et]
                  unfold tak
                  rw [List.getElem?_eq_none (by omega)]
                rw [e2] at q
                exact q _ sA
            · rw [if_neg c1, if_neg c3] at q
              refine ⟨_, .inr (SqT.of ay), rfl, rfl, true, ?_, iteT (q _ (sz.trans sy))⟩
              simp only [inV, eqV, List.any_cons, List.any_nil]
              simp
              exact ⟨fun z => c1 z.symm, fun z => c3 z.symm⟩
          | [x], c2, at0, at1, hx, q => simp at c2
          | x :: y :: z :: r, c2, at0, at1, hx, q => simp at c2
          | [x, y], c2, at0, at1, hx, q =>
            have q : ∀ H', Same H H' → Q (.bl ((decide (w = "name") && frI m (j : Nat) (ti ||| to)) && (gdT H0 m fs gs n x (ti ||| 2 ^ (j : Int).toNat) to && gdT H0 m fs gs n y ti (to ||| 2 ^ (j : Int).toNat)))) H' := q
            rw [Int.toNat_natCast] at q
            rw [if_neg (by simp)]
            have i0 : atI [V.str w, .int (j : Nat), x, y] ((0 : Nat) : Int) = some (.str w) := atI_nat rfl
            have i2 : atI [V.str w, .int (j : Nat), x, y] ((2 : Nat) : Int) = some x := atI_nat rfl
            have i3 : atI [V.str w, .int (j : Nat), x, y] ((3 : Nat) : Int) = some y := atI_nat rfl
            by_cases c1 : w = "name"
            rotate_left
            · rw [decide_eq_false c1, Bool.false_and, Bool.false_and] at q
              exact ixX_t (SqT.of at1) i0 (neS true (by rw [decide_eq_false c1]; rfl) ⟨_, rfl, iteT (q _ sz)⟩)
            refine ixX_t (SqT.of at1) i0 (neS false (by rw [decide_eq_true c1]; rfl) ⟨_, rfl, iteF ?_⟩)
            rw [decide_eq_true c1, Bool.true_and] at q
            have ef : frI m (j : Nat) (ti ||| to) = (decide (j < m) && !(ti ||| to).testBit j) := by unfold frI; simp
            rw [ef] at q
            by_cases cm : j < m
            rotate_left
            · rw [decide_eq_false cm, Bool.false_and, Bool.false_and] at q
              rw [if_pos (by omega)]
              exact q _ sz
            rw [if_neg (by omega), or_nat]
            refine ⟨by omega, ?_⟩
            rw [decide_eq_true cm, Bool.true_and] at q
            cases hbit : (ti ||| to).testBit j with
            | true =>
              rw [hbit] at q
              rw [if_pos (shr_iff.mpr hbit)]
              exact q _ sz
            | false =>
              rw [hbit] at q
              have q : ∀ H', Same H H' → Q (.bl (gdT H0 m fs gs n x (ti ||| 2 ^ j) to && gdT H0 m fs gs n y ti (to ||| 2 ^ j))) H' := by simpa using q
              rw [if_neg (fun z => by have := shr_iff.mp z; rw [hbit] at this; cases this)]
              refine ixX_t (SqT.of at1) i2 ⟨cpow_of (by omega) (by omega) (by decide) (by decide), ?_⟩
              rw [shl_one, or_nat]
              refine ⟨_, _, _, _, _, rfl, m, pf, p1, p2, fs, gs, x, ti ||| 2 ^ j, to, H0, rfl, hm, rfl, f0, f1, f2, rfl, s0.trans sz, hx x (by simp), rfl, rfl, fun G1 s1 => ?_⟩
              cases hl : gdT H0 m fs gs n x (ti ||| 2 ^ j) to with
              | false =>
                rw [hl] at q
                refine ⟨false, rfl, ?_⟩
                rw [if_pos (by decide)]
                exact q _ (sz.trans s1)
              | true =>
                rw [hl] at q
                refine ⟨true, rfl, ?_⟩
                rw [if_neg (by decide)]
                refine ixX_t (SqT.of (s1 _ _ at1)) i3 ⟨cpow_of (by omega) (by omega) (by decide) (by decide), ?_⟩
                (try rw [or_nat])
                exact ⟨_, _, _, _, _, rfl, m, pf, p1, p2, fs, gs, y, ti, to ||| 2 ^ j, H0, rfl, hm, rfl, s1 _ _ f0, s1 _ _ f1, s1 _ _ f2, rfl, (s0.trans sz).trans s1, hx y (by simp), rfl, rfl, fun G2 s2 => q _ ((sz.trans s1).trans s2)⟩
theorem z__law_good {f : Addr} {fd : FuncData} (F : Fun K "_law_good" "_law_good" s__law_good f fd) : FnOk P w K mg base CX0 (2 + 0) f fd ["_law_many", "_law_families", "_law_paper", "_law_taken_in", "_law_taken_out"] (spGood K 0) := by
  refine F.ok (k := 1) sc__law_good (fun vs H Q E h => ?_) (fun cdv A outer s H vs Q E hr h => ?_)
  · obtain ⟨_, _, _, _, _, rfl, h⟩ := h
    exact absurd h id
  · obtain ⟨_, _, _, _, _, rfl, h⟩ := h
    exact absurd h id
abbrev s_law : Stmt := top 21
theorem sc_law : FnScope ["_law_script", "_law_many", "_law_families", "_law_papers_here", "_law_handed", "_law_paper", "_law_found"] ["_law_script"] (defScope s_law) := ⟨rfl, rfl, rfl, by decide +kernel, rfl, by decide +kernel, by decide +kernel⟩
theorem pi_listK {X : Cx} {K : PySem.W.Frag} {tg l : Expr} {tl : TE} (hK : X.K = K) (hl : PE X l tl) : PI X tg l (iList K tl) := hK ▸ pi_list hl
theorem call_list_ofK {X : Cx} {K : PySem.W.Frag} (hK : X.K = K) : CallR X (.type "list") (fun xs H Q => ∃ p ys, xs = [V.ref p] ∧ (SqL K H p ys ∨ SqT K H p ys) ∧ ∀ (l : Addr), H l = none → Q (.ref l) (upd H l (.lst ys))) := hK ▸ call_list_of
theorem repX {pp : Addr} {H H' : Hp} {p : Tre} {t : Addr} {xs : List V} (h : Rep H p t) (hp : H pp = some (.lst xs)) (s : SamX pp H H') : Rep H' p t := by
  induction h with
  | leaf h => exact .leaf (s _ _ (fun z => by rw [z, hp] at h; cases h) h)
  | name h _ _ i1 i2 => exact .name (s _ _ (fun z => by rw [z, hp] at h; cases h) h) i1 i2
set_option maxHeartbeats 4000000 in
theorem ok_law {f : Addr} {fd : FuncData} (F : Fun K "law" "law" s_law f fd) (T : Txt mg) {f__law_at : Addr} {fd__law_at : FuncData} (C__law_at : Cal P w K mg base "_law_at" 1 ["_law_script", "_law_k"] (spCell K) f__law_at fd__law_at) {f__law_family : Addr} {fd__law_family : FuncData} (C__law_family : Cal P w K mg base "_law_family" 2 ["_law_script", "_law_k", "_law_many"] (spFamily K) f__law_family fd__law_family) {f__law_grown : Addr} {fd__law_grown : FuncData} (C__law_grown : Cal P w K mg base "_law_grown" 9 ["_law_script", "_law_pen", "_law_many", "_law_room"] (spGr K 7) f__law_grown fd__law_grown) {f__law_by_names : Addr} {fd__law_by_names : FuncData} (C__law_by_names : Cal P w K mg base "_law_by_names" 12 ["_law_families", "_law_order_here", "_law_taken_in", "_law_taken_out"] (spBN K 10) f__law_by_names fd__law_by_names) {f_is_good : Addr} {fd_is_good : FuncData} (C_is_good : Cal P w K mg base "is_good" 16 ["many", "one", "other", "paper"] (spIG K) f_is_good fd_is_good) {f__law_order : Addr} {fd__law_order : FuncData} (C__law_order : Cal P w K mg base "_law_order" 2 ["_law_script", "_law_many"] (spOrd K) f__law_order fd__law_order) {f__law_bent : Addr} {fd__law_bent : FuncData} (C__law_bent : Cal P w K mg base "_law_bent" 12 ["_law_script", "_law_paper", "_law_deep"] (spBent K 10) f__law_bent fd__law_bent) {f__law_good : Addr} {fd__law_good : FuncData} (C__law_good : Cal P w K mg base "_law_good" 14 ["_law_many", "_law_families", "_law_paper", "_law_taken_in", "_law_taken_out"] (spGood K 12) f__law_good fd__law_good) : FnOk P w K mg base CX0 17 f fd ["_law_script"] (spLaw K) := by
  have sc := sc_law
  refine F.ok sc_law (fun vs H Q E h => ?_) (fun cdv A outer s H vs Q E hr h => ?_)
  · obtain ⟨_, rfl, _⟩ := h
    rfl
  · obtain ⟨x0, rfl, h⟩ := h
    refine ⟨_, (pss_cons (ps_set (i := 1) sc.nd rfl (Or.inl rfl) (pe_op op_mod (pe_cal C__law_at hr (by decide) (by rfl) (pa_cons (pv 0) (pa_cons pe_int pa_nil))) pe_int))
      (pss_cons (ps_set (i := 2) sc.nd rfl (Or.inl rfl) (pe_lst (pa_cons (pe_cal C__law_family hr (by decide) (by rfl) (pa_cons (pv 0) (pa_cons pe_int (pa_cons (pv 1) pa_nil)))) (pa_cons (pe_cal C__law_family hr (by decide) (by rfl) (pa_cons (pv 0) (pa_cons pe_int (pa_cons (pv 1) pa_nil)))) pa_nil))))
      (pss_cons (ps_set (i := 3) sc.nd rfl (Or.inl rfl) (pe_lst (pa_cons (pe_cal C__law_grown hr (by decide) (by rfl) (pa_cons (pv 0) (pa_cons (pe_lst (pa_cons pe_int pa_nil)) (pa_cons (pv 1) (pa_cons (pe_op op_mod (pe_cal C__law_at hr (by decide) (by rfl) (pa_cons (pv 0) (pa_cons pe_int pa_nil))) pe_int) pa_nil))))) pa_nil)))
      (pss_cons (ps_expr (pe_bm PySem.F.plainAttrs_list PySem.F.slot_list_append PySem.F.type_list_append mt_append (pv 3) (pa_cons (pe_cal C__law_by_names hr (by decide) (by rfl) (pa_cons (pv 2) (pa_cons (pe_cal C__law_order hr (by decide) (by rfl) (pa_cons (pv 0) (pa_cons (pv 1) pa_nil))) (pa_cons pe_int (pa_cons pe_int pa_nil))))) pa_nil)))
      (pss_cons (ps_if (pt_cmpR (op_eqK (K := K) rfl hr.units0) (pe_op op_mod (pe_op op_fdivB (pe_cal C__law_at hr (by decide) (by rfl) (pa_cons (pv 0) (pa_cons pe_int pa_nil))) pe_int) pe_int) pe_int (nomark _)) (pss_one (ps_expr (pe_bm PySem.F.plainAttrs_list PySem.F.slot_list_append PySem.F.type_list_append mt_append (pv 3) (pa_cons (pe_cal C__law_bent hr (by decide) (by rfl) (pa_cons (pv 0) (pa_cons (pe_ix (ix_K (K := K) rfl) (pv 3) pe_int (fun _ _ => rfl)) (pa_cons pe_int pa_nil)))) pa_nil)))) pss_nil)
      (pss_cons (ps_comp (i := 4) sc.nd rfl rfl (by rfl) (N := ["_law_family_here"]) (nt := 1) (caps := []) comp_ok rfl (pi_listK (K := K) rfl (pv 2)) (fun _ _ _ _ _ => (pg_name (i := 0) (show List.Nodup (α := Str) ["_law_family_here"] from by decide +kernel) rfl (Or.inl rfl))) gk_name (fun _ _ _ _ _ => pts_nil) (fun _ _ _ _ _ => (pe_callTy (call_list_ofK (K := K) rfl) (by rfl) T.n_list PyProof.Rows.boot_list (pa_cons (pv 0) pa_nil))))
      (pss_cons (ps_for PassesOwn.never rfl (pi_listK (K := K) rfl (pe_op (op_catK (K := K) rfl) (pv 3) (pv 3))) (pg_name (i := 5) sc.nd rfl (Or.inl rfl)) (pss_cons (ps_set (i := 6) sc.nd rfl (Or.inl rfl) (pe_cal C_is_good hr (by decide) (by rfl) (pa_cons (pv 1) (pa_cons (pe_ix (ix_K (K := K) rfl) (pv 4) pe_int (fun _ _ => rfl)) (pa_cons (pe_ix (ix_K (K := K) rfl) (pv 4) pe_int (fun _ _ => rfl)) (pa_cons (pv 5) pa_nil))))))
      (pss_one (ps_if (PW.pt (pw_or (pt_not (pt_val (pe_callB call_isinst (by rfl) T.n_isinstance PyProof.Rows.boot_isinstance (pa_cons (pv 6) (pa_cons (pe_bltn (v := .ty "bool") (by rfl) T.n_bool PyProof.Rows.boot_bool rfl) pa_nil))))) (pw_or (pt_cmpR (op_neK (K := K) rfl hr.units0) (pv 6) (pe_cal C__law_good hr (by decide) (by rfl) (pa_cons (pv 1) (pa_cons (pv 2) (pa_cons (pv 5) (pa_cons pe_int (pa_cons pe_int pa_nil)))))) (nomark _)) (pw_or1 (pt_cmpR (op_neD (K := K) rfl hr.units) (pv 4) (pv 2) (nomark _)))))) (pss_one (ps_ret pe_bl)) pss_nil))))
      (pss_one (ps_ret pe_bl))))))))), ?_⟩
    refine rdg (σ' := [some x0, none, none, none, none, none, none]) rfl ?_
    obtain ⟨a, ns, rfl, hS, hlen, q⟩ := h
    walk_at "rd"
    refine ⟨_, _, rfl, a, ns, 0, rfl, hS, hlen, rfl, by omega, fun c0 => ?_⟩
    (try walk_at "rd")
    obtain ⟨m, em⟩ := Int.eq_ofNat_of_zero_le (Int.emod_nonneg c0 (show (9 : Int) ≠ 0 by decide))
    have wm := Int.emod_lt_of_pos c0 (show (0 : Int) < 9 by decide)
    rw [em] at wm ⊢
    have hm : m ≤ 8 := by omega
    refine ⟨by decide, _, _, _, rfl, a, ns, 2, m, rfl, hS, hlen, rfl, by omega, rfl, hm, fun p1 fs H1 hp1 s1 f1 r1 b1 l1 => ?_⟩
    refine ⟨_, _, _, rfl, a, ns, 5, m, rfl, s1.seq hS, hlen, rfl, by omega, rfl, hm, fun p2 gs H2 hp2 s2 f2 r2 b2 l2 => ?_⟩
    have n12 := ne_new hp2 f1
    have f1 := s2 _ _ f1
    refine ⟨small5 (by simp), fun pf hpf => ?_⟩
    generalize gF : upd H2 pf _ = GF
    have f0 := new_at gF
    have sF := (s1.trans s2).trans (new_sm gF hpf)
    have f1 := new_sm gF hpf _ _ f1
    have f2 := new_sm gF hpf _ _ f2
    have hS := sF.seq hS
    (try walk_at "rd")
    refine ⟨small5 (by simp), fun pp hpp => ?_⟩
    generalize gP : upd GF pp _ = GP
    have ap : GP pp = some (.lst [.int ((0 : Nat) : Int)]) := new_at gP
    have sP := new_sm gP hpp
    refine ⟨_, _, rfl, a, ns, 1, rfl, sP.seq hS, hlen, rfl, by omega, fun c1 => ?_⟩
    (try walk_at "rd")
    obtain ⟨r, er⟩ := Int.eq_ofNat_of_zero_le (Int.emod_nonneg c1 (show (6 : Int) ≠ 0 by decide))
    have wr := Int.emod_lt_of_pos c1 (show (0 : Int) < 6 by decide)
    rw [er] at wr ⊢
    have p6 : 2 ^ (r + 1) ≤ 64 := Nat.pow_le_pow_right (n := 2) (by decide) (show r + 1 ≤ 6 by omega)
    refine ⟨by decide, _, _, _, _, rfl, a, pp, ns, 0, m, r, rfl, fun H' s' => SqL.keepX hS hpp ((SamX.of sP).trans s'), hlen, rfl, ap, rfl, hm, rfl, (show r ≤ 6 by omega), by omega, fun G1 t1 pa1 x1 ap1 _ T1 => ?_⟩
    have s1' : Same GF G1 := ((SamX.of sP).trans x1).same hpp
    have f0 := s1' _ _ f0
    have f1 := s1' _ _ f1
    have f2 := s1' _ _ f2
    have hS := s1'.seq hS
    clear ap ap1 sP x1
    refine ⟨small5 (by simp), fun pl hpl => ?_⟩
    generalize gL : upd G1 pl _ = GL
    have al := new_at gL
    have sL := new_sm gL hpl
    have T1 := (T1.mono sL).up (show r + 1 ≤ 11 by omega)
    (try walk_at "rd")
    refine ⟨_, _, rfl, a, ns, m, rfl, sL.seq hS, hlen, rfl, hm, fun po o G2 hpo s2' ao Ho => ?_⟩
    have sL2 := sL.trans s2'
    have lo : o.length = m := Ho.1
    refine ⟨_, _, _, _, rfl, pf, p1, p2, po, fs, gs, o, m, 0, 0, rfl, sL2 _ _ f0, sL2 _ _ f1, by omega, sL2 _ _ f2, by omega, rfl, ao, Ho.lt, hm, (show o.length ≤ 9 by omega), by omega, rfl, rfl, fun G3 t3 P3 s3 R3 h3 B3 => ?_⟩
    have sL3 := sL2.trans s3
    have al := s3 _ _ (s2' _ _ al)
    have T1 := (T1.mono s2').mono s3
    have T3 := R3.thg.up (show hgt P3 ≤ 11 by omega)
    refine ⟨pl, _, _, rfl, rfl, al, small5' (by simp), ?_⟩
    have S4 : Same G1 (upd G3 pl (.lst ([V.ref t1] ++ [V.ref t3]))) := ((SamX.of sL3).trans SamX.upd).same hpl
    have R3 := repX R3 al (SamX.upd (o := .lst ([V.ref t1] ++ [V.ref t3])))
    have T1 := T1.monoX al (upd_same (H := G3) (o := .lst ([V.ref t1] ++ [V.ref t3]))) SamX.upd
    have T3 := T3.monoX al (upd_same (H := G3) (o := .lst ([V.ref t1] ++ [V.ref t3]))) SamX.upd
    generalize g4 : upd G3 pl _ = G4 at *
    have al := new_at g4
    refine seqCut (fun σ' H5 => ∃ xs : List V, σ' = [some (.ref a), some (.int (m : Nat)), some (.ref pf), some (.ref pl), none, none, none] ∧ Same G1 H5 ∧ H5 pl = some (.lst xs) ∧ xs.length ≤ 3 ∧ ∀ x ∈ xs, Thg H5 11 x) ?_ fun N hN => ?_
    rotate_left
    · (try walk_at "rd")
      refine ⟨_, _, rfl, a, ns, 1, rfl, S4.seq hS, hlen, rfl, by omega, fun c2 => ?_⟩
      (try walk_at "rd")
      refine ⟨⟨by decide, by decide⟩, by decide, ite2 (fun h => ?_) fun h => hN _ _ ⟨_, rfl, S4, al, by simp, thc T1 (thc T3 th0)⟩⟩
      (try walk_at "rd")
      refine ⟨tyV_list al, ixX_l (SqL.of al) rfl ?_⟩
      refine ⟨_, _, _, rfl, a, ns, t3, P3, 0, rfl, S4.seq hS, hlen, rfl, R3, B3, rfl, by omega, (show hgt P3 ≤ 9 by omega), fun v H5 s5 T5 => ?_⟩
      have al := s5 _ _ al
      refine ⟨pl, _, _, rfl, rfl, al, small5' (by simp), hN _ _ ⟨_, rfl, ((SamX.of (S4.trans s5)).trans SamX.upd).same hpl, upd_same, by simp, ?_⟩⟩
      exact tha (thc ((T1.mono s5).monoX al upd_same SamX.upd) (thc ((T3.mono s5).monoX al upd_same SamX.upd) th0)) (thc ((T5.up (show hgt P3 + 1 ≤ 11 by omega)).monoX al upd_same SamX.upd) th0)
    rintro σ' H5 ⟨xs, rfl, s5, al5, lx, TX⟩
    clear T1 T3 R3 al S4
    (try walk_at "rd")
    have f0 := s5 _ _ f0
    have f1 := s5 _ _ f1
    have f2 := s5 _ _ f2
    refine ⟨⟨_, SqL.of f0⟩, compLg (xs := [V.ref p1, V.ref p2]) (fun k ys H6 => Same H5 H6 ∧ ys.length = k ∧ (1 ≤ k → ∃ q1, ys[0]? = some (V.ref q1) ∧ H6 q1 = some (.lst (nV fs)) ∧ H5 q1 = none) ∧ (2 ≤ k → ∃ q2, ys[1]? = some (V.ref q2) ∧ H6 q2 = some (.lst (nV gs)) ∧ H5 q2 = none)) ⟨Same.refl _, rfl, fun z => (by omega), fun z => (by omega)⟩ (small5 (by simp)) (fun k ys H6 hk ⟨s6, e1, _⟩ => ⟨SqL.of (s6 _ _ f0), by omega⟩) (fun k z ys H6 hz ⟨s6, e1, h1, h2⟩ R R' r1 r2 => ?_) fun ys H6 ⟨s6, e1, h1, h2⟩ pz hpz => ?_⟩
    · (try walk_at "rd")
      rcases refs2_get hz with ⟨rfl, rfl⟩ | ⟨rfl, rfl⟩
      · (try walk_at "rd")
        refine ⟨_, .inl (SqL.of (s6 _ _ f1)), fun l hl => r1 _ _ ⟨s6.trans (Same.new hl), by simp [e1], fun _ => ⟨l, by simp [List.length_eq_zero_iff.mp e1], upd_same, old_none s6 hl⟩, fun z => (by omega)⟩⟩
      · (try walk_at "rd")
        obtain ⟨q1, y1, y2, y3⟩ := h1 (by omega)
        refine ⟨_, .inl (SqL.of (s6 _ _ f2)), fun l hl => r1 _ _ ⟨s6.trans (Same.new hl), by simp [e1], fun _ => ⟨q1, by rw [List.getElem?_append_left (by omega)]; exact y1, Same.new hl _ _ y2, y3⟩, fun _ => ⟨l, by rw [List.getElem?_append_right (by omega), e1]; rfl, upd_same, old_none s6 hl⟩⟩⟩
    obtain ⟨q1, y1, y2, y3⟩ := h1 (by simp)
    obtain ⟨q2, z1, z2, z3⟩ := h2 (by simp)
    have ey : ys = [V.ref q1, V.ref q2] := by
      have e2 : ys.length = 2 := e1
      match ys, e2, y1, z1 with
      | [u, v], _, y1, z1 =>
        cases y1
        cases z1
        rfl
    subst ey
    have nz0 := ne_new (old_none s6 hpz) f0
    generalize gz : upd H6 pz _ = Gz
    have az := new_at gz
    have sz := new_sm gz hpz
    have y2 := sz _ _ y2
    have z2 := sz _ _ z2
    have n1 : q1 ≠ p1 := fun z => by rw [z, f1] at y3; cases y3
    have n2 : q2 ≠ p2 := fun z => by rw [z, f2] at z3; cases z3
    have s6z := s6.trans sz
    have al := s6z _ _ al5
    have TX := thm TX s6z
    have f0 := s6z _ _ f0
    have f1 := s6z _ _ f1
    have f2 := s6z _ _ f2
    (try walk_at "rd")
    refine ⟨pl, pl, _, _, rfl, rfl, SqL.of al, SqL.of al, small5 (by omega), fun pc hpc => ?_⟩
    generalize gc : upd Gz pc _ = Gc
    have ac := new_at gc
    have sc' := new_sm gc hpc
    have TX := tha (thm TX sc') (thm TX sc')
    have f0 := sc' _ _ f0
    have f1 := sc' _ _ f1
    have f2 := sc' _ _ f2
    have az := sc' _ _ az
    have y2 := sc' _ _ y2
    have z2 := sc' _ _ z2
    refine ⟨pc, rfl, ⟨_, SqL.of ac⟩, loopLn (xs := xs ++ xs) (fun i σ H7 => ∃ v1 v2, σ = [some (.ref a), some (.int (m : Nat)), some (.ref pf), some (.ref pl), some (.ref pz), v1, v2] ∧ Same Gc H7) ⟨none, none, rfl, Same.refl _⟩ (fun i σ H7 _ ⟨_, _, _, e⟩ => SqL.of (e _ _ ac)) ?_ ?_⟩
    · rintro i x σ H7 hx ⟨v1, v2, rfl, s7⟩ N hN
      have T := TX x (List.mem_of_getElem? hx)
      (try walk_at "rd")
      refine ixX_l (SqL.of (s7 _ _ az)) rfl (ixX_l (SqL.of (s7 _ _ az)) rfl ?_)
      refine ⟨_, _, _, _, rfl, m, q1, q2, fs, gs, Gc, rfl, hm, rfl, SqL.of (s7 _ _ y2), rfl, SqL.of (s7 _ _ z2), s7, T, ?_⟩
      (try walk_at "rd")
      refine ⟨_, "bool", ⟨rfl, rfl⟩, "bool", rfl, by decide, ?_⟩
      rw [if_neg (by decide)]
      refine ⟨_, _, _, _, _, rfl, m, pf, p1, p2, fs, gs, x, 0, 0, Gc, rfl, hm, rfl, s7 _ _ f0, s7 _ _ f1, s7 _ _ f2, rfl, s7, T, rfl, rfl, fun H8 s8 => ?_⟩
      have s78 := s7.trans s8
      refine rNeX_b.mpr ⟨false, by simp, iteF ?_⟩
      refine neD_of (n := 1) (by omega) (deq_pairL (Ne.symm nz0) (s78 _ _ az) (s78 _ _ f0) (deq_flat n1 (s78 _ _ y2) (s78 _ _ f1) (flat_n _) (flat_n _)) (deq_flat n2 (s78 _ _ z2) (s78 _ _ f2) (flat_n _) (flat_n _))) ⟨false, by rw [eqVs_n, eqVs_n]; simp, iteF (hN _ _ ⟨_, _, rfl, s78⟩)⟩
    · rintro σ H7 ⟨v1, v2, rfl, s7⟩
      (try walk_at "rd")
      exact q _
end
set_option maxHeartbeats 4000000 in
theorem all_mk {l : PySem.W.OpenLaw} {w : World} {K : PySem.W.Frag} {h : Heap} {mg : Str → Option Value} {fa : Addr} (X : K.In h) (G : h.Ns mainGlobals mg) (hfa : mg "law" = some (.ref fa))
    {f_is_whole : Addr} {od_is_whole an_is_whole : Option Addr} {sl_is_whole : Array (Option Value)} {oc_is_whole kV_is_whole dc_is_whole pm_is_whole cd_is_whole ct_is_whole : Value}
    {f_holds : Addr} {od_holds an_holds : Option Addr} {sl_holds : Array (Option Value)} {oc_holds kV_holds dc_holds pm_holds cd_holds ct_holds : Value}
    {f_begins_as_a_paper : Addr} {od_begins_as_a_paper an_begins_as_a_paper : Option Addr} {sl_begins_as_a_paper : Array (Option Value)} {oc_begins_as_a_paper kV_begins_as_a_paper dc_begins_as_a_paper pm_begins_as_a_paper cd_begins_as_a_paper ct_begins_as_a_paper : Value}
    {f_is_taken : Addr} {od_is_taken an_is_taken : Option Addr} {sl_is_taken : Array (Option Value)} {oc_is_taken kV_is_taken dc_is_taken pm_is_taken cd_is_taken ct_is_taken : Value}
    {f_is_free : Addr} {od_is_free an_is_free : Option Addr} {sl_is_free : Array (Option Value)} {oc_is_free kV_is_free dc_is_free pm_is_free cd_is_free ct_is_free : Value}
    {f_is_good_with : Addr} {od_is_good_with an_is_good_with : Option Addr} {sl_is_good_with : Array (Option Value)} {oc_is_good_with kV_is_good_with dc_is_good_with pm_is_good_with cd_is_good_with ct_is_good_with : Value}
    {f_is_good : Addr} {od_is_good an_is_good : Option Addr} {sl_is_good : Array (Option Value)} {oc_is_good kV_is_good dc_is_good pm_is_good cd_is_good ct_is_good : Value}
    {f__law_at : Addr} {od__law_at an__law_at : Option Addr} {sl__law_at : Array (Option Value)} {oc__law_at kV__law_at dc__law_at pm__law_at cd__law_at ct__law_at : Value}
    {f__law_drawn : Addr} {od__law_drawn an__law_drawn : Option Addr} {sl__law_drawn : Array (Option Value)} {oc__law_drawn kV__law_drawn dc__law_drawn pm__law_drawn cd__law_drawn ct__law_drawn : Value}
    {f__law_whole : Addr} {od__law_whole an__law_whole : Option Addr} {sl__law_whole : Array (Option Value)} {oc__law_whole kV__law_whole dc__law_whole pm__law_whole cd__law_whole ct__law_whole : Value}
    {f__law_family : Addr} {od__law_family an__law_family : Option Addr} {sl__law_family : Array (Option Value)} {oc__law_family kV__law_family dc__law_family pm__law_family cd__law_family ct__law_family : Value}
    {f__law_grown : Addr} {od__law_grown an__law_grown : Option Addr} {sl__law_grown : Array (Option Value)} {oc__law_grown kV__law_grown dc__law_grown pm__law_grown cd__law_grown ct__law_grown : Value}
    {f__law_first_in : Addr} {od__law_first_in an__law_first_in : Option Addr} {sl__law_first_in : Array (Option Value)} {oc__law_first_in kV__law_first_in dc__law_first_in pm__law_first_in cd__law_first_in ct__law_first_in : Value}
    {f__law_by_names : Addr} {od__law_by_names an__law_by_names : Option Addr} {sl__law_by_names : Array (Option Value)} {oc__law_by_names kV__law_by_names dc__law_by_names pm__law_by_names cd__law_by_names ct__law_by_names : Value}
    {f__law_order : Addr} {od__law_order an__law_order : Option Addr} {sl__law_order : Array (Option Value)} {oc__law_order kV__law_order dc__law_order pm__law_order cd__law_order ct__law_order : Value}
    {f__law_odd : Addr} {od__law_odd an__law_odd : Option Addr} {sl__law_odd : Array (Option Value)} {oc__law_odd kV__law_odd dc__law_odd pm__law_odd cd__law_odd ct__law_odd : Value}
    {f__law_bent : Addr} {od__law_bent an__law_bent : Option Addr} {sl__law_bent : Array (Option Value)} {oc__law_bent kV__law_bent dc__law_bent pm__law_bent cd__law_bent ct__law_bent : Value}
    {f__law_good : Addr} {od__law_good an__law_good : Option Addr} {sl__law_good : Array (Option Value)} {oc__law_good kV__law_good dc__law_good pm__law_good cd__law_good ct__law_good : Value}
    {f_law : Addr} {od_law an_law : Option Addr} {sl_law : Array (Option Value)} {oc_law kV_law dc_law pm_law cd_law ct_law : Value}
    (a_is_whole : PySem.W.nsIn K mainGlobals "is_whole" = some (some (.ref f_is_whole))) (l_is_whole : K.lookup f_is_whole = some ⟨oc_is_whole, od_is_whole, .func (PySem.W.fnOf "is_whole" "is_whole" (defArgs s_is_whole) (defBody s_is_whole) (defScope s_is_whole) .none kV_is_whole dc_is_whole pm_is_whole an_is_whole cd_is_whole ct_is_whole), sl_is_whole⟩) (c_is_whole : PySem.W.codeIn K cd_is_whole "is_whole" = true) (k_is_whole : PySem.W.keepIn K (.ref f_is_whole) = true)
    (a_holds : PySem.W.nsIn K mainGlobals "holds" = some (some (.ref f_holds))) (l_holds : K.lookup f_holds = some ⟨oc_holds, od_holds, .func (PySem.W.fnOf "holds" "holds" (defArgs s_holds) (defBody s_holds) (defScope s_holds) .none kV_holds dc_holds pm_holds an_holds cd_holds ct_holds), sl_holds⟩) (c_holds : PySem.W.codeIn K cd_holds "holds" = true) (k_holds : PySem.W.keepIn K (.ref f_holds) = true)
    (a_begins_as_a_paper : PySem.W.nsIn K mainGlobals "begins_as_a_paper" = some (some (.ref f_begins_as_a_paper))) (l_begins_as_a_paper : K.lookup f_begins_as_a_paper = some ⟨oc_begins_as_a_paper, od_begins_as_a_paper, .func (PySem.W.fnOf "begins_as_a_paper" "begins_as_a_paper" (defArgs s_begins_as_a_paper) (defBody s_begins_as_a_paper) (defScope s_begins_as_a_paper) .none kV_begins_as_a_paper dc_begins_as_a_paper pm_begins_as_a_paper an_begins_as_a_paper cd_begins_as_a_paper ct_begins_as_a_paper), sl_begins_as_a_paper⟩) (c_begins_as_a_paper : PySem.W.codeIn K cd_begins_as_a_paper "begins_as_a_paper" = true) (k_begins_as_a_paper : PySem.W.keepIn K (.ref f_begins_as_a_paper) = true)
    (a_is_taken : PySem.W.nsIn K mainGlobals "is_taken" = some (some (.ref f_is_taken))) (l_is_taken : K.lookup f_is_taken = some ⟨oc_is_taken, od_is_taken, .func (PySem.W.fnOf "is_taken" "is_taken" (defArgs s_is_taken) (defBody s_is_taken) (defScope s_is_taken) .none kV_is_taken dc_is_taken pm_is_taken an_is_taken cd_is_taken ct_is_taken), sl_is_taken⟩) (c_is_taken : PySem.W.codeIn K cd_is_taken "is_taken" = true) (k_is_taken : PySem.W.keepIn K (.ref f_is_taken) = true)
    (a_is_free : PySem.W.nsIn K mainGlobals "is_free" = some (some (.ref f_is_free))) (l_is_free : K.lookup f_is_free = some ⟨oc_is_free, od_is_free, .func (PySem.W.fnOf "is_free" "is_free" (defArgs s_is_free) (defBody s_is_free) (defScope s_is_free) .none kV_is_free dc_is_free pm_is_free an_is_free cd_is_free ct_is_free), sl_is_free⟩) (c_is_free : PySem.W.codeIn K cd_is_free "is_free" = true) (k_is_free : PySem.W.keepIn K (.ref f_is_free) = true)
    (a_is_good_with : PySem.W.nsIn K mainGlobals "is_good_with" = some (some (.ref f_is_good_with))) (l_is_good_with : K.lookup f_is_good_with = some ⟨oc_is_good_with, od_is_good_with, .func (PySem.W.fnOf "is_good_with" "is_good_with" (defArgs s_is_good_with) (defBody s_is_good_with) (defScope s_is_good_with) .none kV_is_good_with dc_is_good_with pm_is_good_with an_is_good_with cd_is_good_with ct_is_good_with), sl_is_good_with⟩) (c_is_good_with : PySem.W.codeIn K cd_is_good_with "is_good_with" = true) (k_is_good_with : PySem.W.keepIn K (.ref f_is_good_with) = true)
    (a_is_good : PySem.W.nsIn K mainGlobals "is_good" = some (some (.ref f_is_good))) (l_is_good : K.lookup f_is_good = some ⟨oc_is_good, od_is_good, .func (PySem.W.fnOf "is_good" "is_good" (defArgs s_is_good) (defBody s_is_good) (defScope s_is_good) .none kV_is_good dc_is_good pm_is_good an_is_good cd_is_good ct_is_good), sl_is_good⟩) (c_is_good : PySem.W.codeIn K cd_is_good "is_good" = true) (k_is_good : PySem.W.keepIn K (.ref f_is_good) = true)
    (a__law_at : PySem.W.nsIn K mainGlobals "_law_at" = some (some (.ref f__law_at))) (l__law_at : K.lookup f__law_at = some ⟨oc__law_at, od__law_at, .func (PySem.W.fnOf "_law_at" "_law_at" (defArgs s__law_at) (defBody s__law_at) (defScope s__law_at) .none kV__law_at dc__law_at pm__law_at an__law_at cd__law_at ct__law_at), sl__law_at⟩) (c__law_at : PySem.W.codeIn K cd__law_at "_law_at" = true) (k__law_at : PySem.W.keepIn K (.ref f__law_at) = true)
    (a__law_drawn : PySem.W.nsIn K mainGlobals "_law_drawn" = some (some (.ref f__law_drawn))) (l__law_drawn : K.lookup f__law_drawn = some ⟨oc__law_drawn, od__law_drawn, .func (PySem.W.fnOf "_law_drawn" "_law_drawn" (defArgs s__law_drawn) (defBody s__law_drawn) (defScope s__law_drawn) .none kV__law_drawn dc__law_drawn pm__law_drawn an__law_drawn cd__law_drawn ct__law_drawn), sl__law_drawn⟩) (c__law_drawn : PySem.W.codeIn K cd__law_drawn "_law_drawn" = true) (k__law_drawn : PySem.W.keepIn K (.ref f__law_drawn) = true)
    (a__law_whole : PySem.W.nsIn K mainGlobals "_law_whole" = some (some (.ref f__law_whole))) (l__law_whole : K.lookup f__law_whole = some ⟨oc__law_whole, od__law_whole, .func (PySem.W.fnOf "_law_whole" "_law_whole" (defArgs s__law_whole) (defBody s__law_whole) (defScope s__law_whole) .none kV__law_whole dc__law_whole pm__law_whole an__law_whole cd__law_whole ct__law_whole), sl__law_whole⟩) (c__law_whole : PySem.W.codeIn K cd__law_whole "_law_whole" = true) (k__law_whole : PySem.W.keepIn K (.ref f__law_whole) = true)
    (a__law_family : PySem.W.nsIn K mainGlobals "_law_family" = some (some (.ref f__law_family))) (l__law_family : K.lookup f__law_family = some ⟨oc__law_family, od__law_family, .func (PySem.W.fnOf "_law_family" "_law_family" (defArgs s__law_family) (defBody s__law_family) (defScope s__law_family) .none kV__law_family dc__law_family pm__law_family an__law_family cd__law_family ct__law_family), sl__law_family⟩) (c__law_family : PySem.W.codeIn K cd__law_family "_law_family" = true) (k__law_family : PySem.W.keepIn K (.ref f__law_family) = true)
    (a__law_grown : PySem.W.nsIn K mainGlobals "_law_grown" = some (some (.ref f__law_grown))) (l__law_grown : K.lookup f__law_grown = some ⟨oc__law_grown, od__law_grown, .func (PySem.W.fnOf "_law_grown" "_law_grown" (defArgs s__law_grown) (defBody s__law_grown) (defScope s__law_grown) .none kV__law_grown dc__law_grown pm__law_grown an__law_grown cd__law_grown ct__law_grown), sl__law_grown⟩) (c__law_grown : PySem.W.codeIn K cd__law_grown "_law_grown" = true) (k__law_grown : PySem.W.keepIn K (.ref f__law_grown) = true)
    (a__law_first_in : PySem.W.nsIn K mainGlobals "_law_first_in" = some (some (.ref f__law_first_in))) (l__law_first_in : K.lookup f__law_first_in = some ⟨oc__law_first_in, od__law_first_in, .func (PySem.W.fnOf "_law_first_in" "_law_first_in" (defArgs s__law_first_in) (defBody s__law_first_in) (defScope s__law_first_in) .none kV__law_first_in dc__law_first_in pm__law_first_in an__law_first_in cd__law_first_in ct__law_first_in), sl__law_first_in⟩) (c__law_first_in : PySem.W.codeIn K cd__law_first_in "_law_first_in" = true) (k__law_first_in : PySem.W.keepIn K (.ref f__law_first_in) = true)
    (a__law_by_names : PySem.W.nsIn K mainGlobals "_law_by_names" = some (some (.ref f__law_by_names))) (l__law_by_names : K.lookup f__law_by_names = some ⟨oc__law_by_names, od__law_by_names, .func (PySem.W.fnOf "_law_by_names" "_law_by_names" (defArgs s__law_by_names) (defBody s__law_by_names) (defScope s__law_by_names) .none kV__law_by_names dc__law_by_names pm__law_by_names an__law_by_names cd__law_by_names ct__law_by_names), sl__law_by_names⟩) (c__law_by_names : PySem.W.codeIn K cd__law_by_names "_law_by_names" = true) (k__law_by_names : PySem.W.keepIn K (.ref f__law_by_names) = true)
    (a__law_order : PySem.W.nsIn K mainGlobals "_law_order" = some (some (.ref f__law_order))) (l__law_order : K.lookup f__law_order = some ⟨oc__law_order, od__law_order, .func (PySem.W.fnOf "_law_order" "_law_order" (defArgs s__law_order) (defBody s__law_order) (defScope s__law_order) .none kV__law_order dc__law_order pm__law_order an__law_order cd__law_order ct__law_order), sl__law_order⟩) (c__law_order : PySem.W.codeIn K cd__law_order "_law_order" = true) (k__law_order : PySem.W.keepIn K (.ref f__law_order) = true)
    (a__law_odd : PySem.W.nsIn K mainGlobals "_law_odd" = some (some (.ref f__law_odd))) (l__law_odd : K.lookup f__law_odd = some ⟨oc__law_odd, od__law_odd, .func (PySem.W.fnOf "_law_odd" "_law_odd" (defArgs s__law_odd) (defBody s__law_odd) (defScope s__law_odd) .none kV__law_odd dc__law_odd pm__law_odd an__law_odd cd__law_odd ct__law_odd), sl__law_odd⟩) (c__law_odd : PySem.W.codeIn K cd__law_odd "_law_odd" = true) (k__law_odd : PySem.W.keepIn K (.ref f__law_odd) = true)
    (a__law_bent : PySem.W.nsIn K mainGlobals "_law_bent" = some (some (.ref f__law_bent))) (l__law_bent : K.lookup f__law_bent = some ⟨oc__law_bent, od__law_bent, .func (PySem.W.fnOf "_law_bent" "_law_bent" (defArgs s__law_bent) (defBody s__law_bent) (defScope s__law_bent) .none kV__law_bent dc__law_bent pm__law_bent an__law_bent cd__law_bent ct__law_bent), sl__law_bent⟩) (c__law_bent : PySem.W.codeIn K cd__law_bent "_law_bent" = true) (k__law_bent : PySem.W.keepIn K (.ref f__law_bent) = true)
    (a__law_good : PySem.W.nsIn K mainGlobals "_law_good" = some (some (.ref f__law_good))) (l__law_good : K.lookup f__law_good = some ⟨oc__law_good, od__law_good, .func (PySem.W.fnOf "_law_good" "_law_good" (defArgs s__law_good) (defBody s__law_good) (defScope s__law_good) .none kV__law_good dc__law_good pm__law_good an__law_good cd__law_good ct__law_good), sl__law_good⟩) (c__law_good : PySem.W.codeIn K cd__law_good "_law_good" = true) (k__law_good : PySem.W.keepIn K (.ref f__law_good) = true)
    (a_law : PySem.W.nsIn K mainGlobals "law" = some (some (.ref f_law))) (l_law : K.lookup f_law = some ⟨oc_law, od_law, .func (PySem.W.fnOf "law" "law" (defArgs s_law) (defBody s_law) (defScope s_law) .none kV_law dc_law pm_law an_law cd_law ct_law), sl_law⟩) (c_law : PySem.W.codeIn K cd_law "law" = true) (k_law : PySem.W.keepIn K (.ref f_law) = true)
    (z_isinstance : PySem.W.nsIn K mainGlobals "isinstance" = some none)
    (z_int : PySem.W.nsIn K mainGlobals "int" = some none)
    (z_bool : PySem.W.nsIn K mainGlobals "bool" = some none)
    (z_tuple : PySem.W.nsIn K mainGlobals "tuple" = some none)
    (z_str : PySem.W.nsIn K mainGlobals "str" = some none)
    (z_len : PySem.W.nsIn K mainGlobals "len" = some none)
    (z_range : PySem.W.nsIn K mainGlobals "range" = some none)
    (z_sorted : PySem.W.nsIn K mainGlobals "sorted" = some none)
    (z_list : PySem.W.nsIn K mainGlobals "list" = some none) :
    ∃ fd : FuncData, (∀ (s : Shared) (v : Value), BindsTo s fd ⟨[v], []⟩ [("_law_script", v)]) ∧ ∀ base : Heap, K.In base → base.Ns mainGlobals mg → FnOk l.prog w K mg base CX0 17 fa fd ["_law_script"] ((spLaw K)) := by
  have e := hfa.symm.trans (PySem.W.mg_of X G a_law)
  cases e
  have T : Txt mg := ⟨PySem.W.mg_none_of X G z_isinstance, PySem.W.mg_none_of X G z_int, PySem.W.mg_none_of X G z_bool, PySem.W.mg_none_of X G z_tuple, PySem.W.mg_none_of X G z_str, PySem.W.mg_none_of X G z_len, PySem.W.mg_none_of X G z_range, PySem.W.mg_none_of X G z_sorted, PySem.W.mg_none_of X G z_list⟩
  have F_is_whole := fun_mk (st := s_is_whole) l_is_whole c_is_whole k_is_whole
  have b_is_whole := F_is_whole.binds (ps := ["thing"]) fun _ _ _ _ _ _ us hl => match us, hl with | [_], _ => rfl
  have F_holds := fun_mk (st := s_holds) l_holds c_holds k_holds
  have b_holds := F_holds.binds (ps := ["one", "other"]) fun _ _ _ _ _ _ us hl => match us, hl with | [_, _], _ => rfl
  have F_begins_as_a_paper := fun_mk (st := s_begins_as_a_paper) l_begins_as_a_paper c_begins_as_a_paper k_begins_as_a_paper
  have b_begins_as_a_paper := F_begins_as_a_paper.binds (ps := ["thing"]) fun _ _ _ _ _ _ us hl => match us, hl with | [_], _ => rfl
  have F_is_taken := fun_mk (st := s_is_taken) l_is_taken c_is_taken k_is_taken
  have b_is_taken := F_is_taken.binds (ps := ["family", "k", "taken"]) fun _ _ _ _ _ _ us hl => match us, hl with | [_, _, _], _ => rfl
  have F_is_free := fun_mk (st := s_is_free) l_is_free c_is_free k_is_free
  have b_is_free := F_is_free.binds (ps := ["many", "k", "taken"]) fun _ _ _ _ _ _ us hl => match us, hl with | [_, _, _], _ => rfl
  have F_is_good_with := fun_mk (st := s_is_good_with) l_is_good_with c_is_good_with k_is_good_with
  have b_is_good_with := F_is_good_with.binds (ps := ["many", "one", "other", "paper", "taken_in", "taken_out"]) fun _ _ _ _ _ _ us hl => match us, hl with | [_, _, _, _, _, _], _ => rfl
  have F_is_good := fun_mk (st := s_is_good) l_is_good c_is_good k_is_good
  have b_is_good := F_is_good.binds (ps := ["many", "one", "other", "paper"]) fun _ _ _ _ _ _ us hl => match us, hl with | [_, _, _, _], _ => rfl
  have F__law_at := fun_mk (st := s__law_at) l__law_at c__law_at k__law_at
  have b__law_at := F__law_at.binds (ps := ["_law_script", "_law_k"]) fun _ _ _ _ _ _ us hl => match us, hl with | [_, _], _ => rfl
  have F__law_drawn := fun_mk (st := s__law_drawn) l__law_drawn c__law_drawn k__law_drawn
  have b__law_drawn := F__law_drawn.binds (ps := ["_law_cell", "_law_k", "_law_size"]) fun _ _ _ _ _ _ us hl => match us, hl with | [_, _, _], _ => rfl
  have F__law_whole := fun_mk (st := s__law_whole) l__law_whole c__law_whole k__law_whole
  have b__law_whole := F__law_whole.binds (ps := ["_law_thing"]) fun _ _ _ _ _ _ us hl => match us, hl with | [_], _ => rfl
  have F__law_family := fun_mk (st := s__law_family) l__law_family c__law_family k__law_family
  have b__law_family := F__law_family.binds (ps := ["_law_script", "_law_k", "_law_many"]) fun _ _ _ _ _ _ us hl => match us, hl with | [_, _, _], _ => rfl
  have F__law_grown := fun_mk (st := s__law_grown) l__law_grown c__law_grown k__law_grown
  have b__law_grown := F__law_grown.binds (ps := ["_law_script", "_law_pen", "_law_many", "_law_room"]) fun _ _ _ _ _ _ us hl => match us, hl with | [_, _, _, _], _ => rfl
  have F__law_first_in := fun_mk (st := s__law_first_in) l__law_first_in c__law_first_in k__law_first_in
  have b__law_first_in := F__law_first_in.binds (ps := ["_law_family_here", "_law_taken"]) fun _ _ _ _ _ _ us hl => match us, hl with | [_, _], _ => rfl
  have F__law_by_names := fun_mk (st := s__law_by_names) l__law_by_names c__law_by_names k__law_by_names
  have b__law_by_names := F__law_by_names.binds (ps := ["_law_families", "_law_order_here", "_law_taken_in", "_law_taken_out"]) fun _ _ _ _ _ _ us hl => match us, hl with | [_, _, _, _], _ => rfl
  have F__law_order := fun_mk (st := s__law_order) l__law_order c__law_order k__law_order
  have b__law_order := F__law_order.binds (ps := ["_law_script", "_law_many"]) fun _ _ _ _ _ _ us hl => match us, hl with | [_, _], _ => rfl
  have F__law_odd := fun_mk (st := s__law_odd) l__law_odd c__law_odd k__law_odd
  have b__law_odd := F__law_odd.binds (ps := ["_law_paper", "_law_cell"]) fun _ _ _ _ _ _ us hl => match us, hl with | [_, _], _ => rfl
  have F__law_bent := fun_mk (st := s__law_bent) l__law_bent c__law_bent k__law_bent
  have b__law_bent := F__law_bent.binds (ps := ["_law_script", "_law_paper", "_law_deep"]) fun _ _ _ _ _ _ us hl => match us, hl with | [_, _, _], _ => rfl
  have F__law_good := fun_mk (st := s__law_good) l__law_good c__law_good k__law_good
  have b__law_good := F__law_good.binds (ps := ["_law_many", "_law_families", "_law_paper", "_law_taken_in", "_law_taken_out"]) fun _ _ _ _ _ _ us hl => match us, hl with | [_, _, _, _, _], _ => rfl
  have F_law := fun_mk (st := s_law) l_law c_law k_law
  refine ⟨PySem.W.fnOf "law" "law" (defArgs s_law) (defBody s_law) (defScope s_law) .none kV_law dc_law pm_law an_law cd_law ct_law, fun s v => .of_eq rfl, fun base _ _ => ?_⟩
  have C_is_whole : Cal l.prog w K mg base "is_whole" 1 ["thing"] spWhole _ _ := ⟨ok_is_whole F_is_whole T , PySem.W.mg_of X G a_is_whole, k_is_whole, b_is_whole⟩
  have C_holds : Cal l.prog w K mg base "holds" 1 ["one", "other"] spHolds _ _ := ⟨ok_holds F_holds T , PySem.W.mg_of X G a_holds, k_holds, b_holds⟩
  have C_begins_as_a_paper : Cal l.prog w K mg base "begins_as_a_paper" 2 ["thing"] (spBegins K) _ _ := ⟨ok_begins_as_a_paper F_begins_as_a_paper T C_is_whole, PySem.W.mg_of X G a_begins_as_a_paper, k_begins_as_a_paper, b_begins_as_a_paper⟩
  have C_is_taken : Cal l.prog w K mg base "is_taken" 2 ["family", "k", "taken"] (spTk K) _ _ := ⟨ok_is_taken F_is_taken T C_holds, PySem.W.mg_of X G a_is_taken, k_is_taken, b_is_taken⟩
  have C_is_free : Cal l.prog w K mg base "is_free" 1 ["many", "k", "taken"] spFree _ _ := ⟨ok_is_free F_is_free T , PySem.W.mg_of X G a_is_free, k_is_free, b_is_free⟩
  have D_is_good_with : ∀ n, Cal l.prog w K mg base "is_good_with" (3 + n) ["many", "one", "other", "paper", "taken_in", "taken_out"] (spGW K n) f_is_good_with (PySem.W.fnOf "is_good_with" "is_good_with" (defArgs s_is_good_with) (defBody s_is_good_with) (defScope s_is_good_with) .none kV_is_good_with dc_is_good_with pm_is_good_with an_is_good_with cd_is_good_with ct_is_good_with) := fun n => by
    induction n with
    | zero => exact ⟨z_is_good_with F_is_good_with, PySem.W.mg_of X G a_is_good_with, k_is_good_with, b_is_good_with⟩
    | succ n ih => exact ⟨ok_is_good_with F_is_good_with T C_begins_as_a_paper C_is_taken C_is_free n ih, PySem.W.mg_of X G a_is_good_with, k_is_good_with, b_is_good_with⟩
  have C_is_good_with := D_is_good_with 12
  have C_is_good : Cal l.prog w K mg base "is_good" 16 ["many", "one", "other", "paper"] (spIG K) _ _ := ⟨ok_is_good F_is_good T C_is_good_with, PySem.W.mg_of X G a_is_good, k_is_good, b_is_good⟩
  have C__law_at : Cal l.prog w K mg base "_law_at" 1 ["_law_script", "_law_k"] (spCell K) _ _ := ⟨ok__law_at F__law_at T , PySem.W.mg_of X G a__law_at, k__law_at, b__law_at⟩
  have C__law_drawn : Cal l.prog w K mg base "_law_drawn" 1 ["_law_cell", "_law_k", "_law_size"] spDrawn _ _ := ⟨ok__law_drawn F__law_drawn T , PySem.W.mg_of X G a__law_drawn, k__law_drawn, b__law_drawn⟩
  have C__law_whole : Cal l.prog w K mg base "_law_whole" 1 ["_law_thing"] spLWhole _ _ := ⟨ok__law_whole F__law_whole T , PySem.W.mg_of X G a__law_whole, k__law_whole, b__law_whole⟩
  have C__law_family : Cal l.prog w K mg base "_law_family" 2 ["_law_script", "_law_k", "_law_many"] (spFamily K) _ _ := ⟨ok__law_family F__law_family T C__law_at C__law_drawn, PySem.W.mg_of X G a__law_family, k__law_family, b__law_family⟩
  have D__law_grown : ∀ n, Cal l.prog w K mg base "_law_grown" (2 + n) ["_law_script", "_law_pen", "_law_many", "_law_room"] (spGr K n) f__law_grown (PySem.W.fnOf "_law_grown" "_law_grown" (defArgs s__law_grown) (defBody s__law_grown) (defScope s__law_grown) .none kV__law_grown dc__law_grown pm__law_grown an__law_grown cd__law_grown ct__law_grown) := fun n => by
    induction n with
    | zero => exact ⟨z__law_grown F__law_grown, PySem.W.mg_of X G a__law_grown, k__law_grown, b__law_grown⟩
    | succ n ih => exact ⟨ok__law_grown F__law_grown T C__law_at n ih, PySem.W.mg_of X G a__law_grown, k__law_grown, b__law_grown⟩
  have C__law_grown := D__law_grown 7
  have C__law_first_in : Cal l.prog w K mg base "_law_first_in" 1 ["_law_family_here", "_law_taken"] (spFI K) _ _ := ⟨ok__law_first_in F__law_first_in T , PySem.W.mg_of X G a__law_first_in, k__law_first_in, b__law_first_in⟩
  have D__law_by_names : ∀ n, Cal l.prog w K mg base "_law_by_names" (2 + n) ["_law_families", "_law_order_here", "_law_taken_in", "_law_taken_out"] (spBN K n) f__law_by_names (PySem.W.fnOf "_law_by_names" "_law_by_names" (defArgs s__law_by_names) (defBody s__law_by_names) (defScope s__law_by_names) .none kV__law_by_names dc__law_by_names pm__law_by_names an__law_by_names cd__law_by_names ct__law_by_names) := fun n => by
    induction n with
    | zero => exact ⟨z__law_by_names F__law_by_names, PySem.W.mg_of X G a__law_by_names, k__law_by_names, b__law_by_names⟩
    | succ n ih => exact ⟨ok__law_by_names F__law_by_names T C__law_first_in n ih, PySem.W.mg_of X G a__law_by_names, k__law_by_names, b__law_by_names⟩
  have C__law_by_names := D__law_by_names 10
  have C__law_order : Cal l.prog w K mg base "_law_order" 2 ["_law_script", "_law_many"] (spOrd K) _ _ := ⟨ok__law_order F__law_order T C__law_at, PySem.W.mg_of X G a__law_order, k__law_order, b__law_order⟩
  have C__law_odd : Cal l.prog w K mg base "_law_odd" 1 ["_law_paper", "_law_cell"] (spOdd K) _ _ := ⟨ok__law_odd F__law_odd T , PySem.W.mg_of X G a__law_odd, k__law_odd, b__law_odd⟩
  have D__law_bent : ∀ n, Cal l.prog w K mg base "_law_bent" (2 + n) ["_law_script", "_law_paper", "_law_deep"] (spBent K n) f__law_bent (PySem.W.fnOf "_law_bent" "_law_bent" (defArgs s__law_bent) (defBody s__law_bent) (defScope s__law_bent) .none kV__law_bent dc__law_bent pm__law_bent an__law_bent cd__law_bent ct__law_bent) := fun n => by
    induction n with
    | zero => exact ⟨z__law_bent F__law_bent, PySem.W.mg_of X G a__law_bent, k__law_bent, b__law_bent⟩
    | succ n ih => exact ⟨ok__law_bent F__law_bent T C__law_at C__law_odd n ih, PySem.W.mg_of X G a__law_bent, k__law_bent, b__law_bent⟩
  have C__law_bent := D__law_bent 10
  have D__law_good : ∀ n, Cal l.prog w K mg base "_law_good" (2 + n) ["_law_many", "_law_families", "_law_paper", "_law_taken_in", "_law_taken_out"] (spGood K n) f__law_good (PySem.W.fnOf "_law_good" "_law_good" (defArgs s__law_good) (defBody s__law_good) (defScope s__law_good) .none kV__law_good dc__law_good pm__law_good an__law_good cd__law_good ct__law_good) := fun n => by
    induction n with
    | zero => exact ⟨z__law_good F__law_good, PySem.W.mg_of X G a__law_good, k__law_good, b__law_good⟩
    | succ n ih => exact ⟨ok__law_good F__law_good T C__law_whole n ih, PySem.W.mg_of X G a__law_good, k__law_good, b__law_good⟩
  have C__law_good := D__law_good 12
  exact ok_law F_law T C__law_at C__law_family C__law_grown C__law_by_names C_is_good C__law_order C__law_bent C__law_good
theorem walk {l : PySem.W.OpenLaw} {q : Program} {loose : List Str} {XP : (Str → Option Value) → Heap → Prop} {YP : World → Heap → Prop} {d : DefRec} {K : Params → PySem.W.Frag} (hn : l.most = some 63) (hdf : d.params.defaults = [])
    (hY : ∀ (w : World) (h : Heap), YP w h → (K w.params).In h)
    (F : ∀ (w : World) (mg : Str → Option Value) (fa : Addr) (h : Heap), (K w.params).In h → h.Ns mainGlobals mg → mg d.name = some (.ref fa) →
      ∃ fd : FuncData, (∀ (s : Shared) (u : Value), BindsTo s fd ⟨[u], []⟩ [("_law_script", u)]) ∧ ∀ base : Heap, (K w.params).In base → base.Ns mainGlobals mg → FnOk l.prog w (K w.params) mg base CX0 17 fa fd ["_law_script"] ((spLaw (K w.params)))) :
    PySem.W.WalkO q loose XP YP l.row.toRowW d [] (fun f vs => PySem.call f vs) :=
  L2.walk_of (n := 63) (k := 17) (x := "_law_script") (CX := fun _ => CX0) (sp := fun w => (spLaw (K w.params))) hn (by decide) hdf ⟨rfl, by decide, by decide⟩ hY F (fun _ _ a ns hl _ hS => ⟨_, rfl, a, ns, rfl, hS, hl, fun _ => rfl⟩) fun _ _ _ _ _ z => z
end Zk16
open PySem PySem.W PyProof.Rows
set_option maxRecDepth 100000 in
set_option maxHeartbeats 0 in
theorem PySem.Challenge.cw_allhits_k16_papers_looked_at_holds : PySem.Challenge.rw_allhits_k16_papers_looked_at.Holds := by
  w_on; o_law; k_head; (case hw => w_witness2)
  k_fill
  refine Zk16.walk (l := PySem.Challenge.rw_allhits_k16_papers_looked_at) rfl rfl (fun w h Y => PySem.W.kIn_of Y) ?F
  case F =>
    intro w mg fa h KX G hmg
    refine' Zk16.all_mk KX G hmg ?a_is_whole ?l_is_whole ?c_is_whole ?k_is_whole ?a_holds ?l_holds ?c_holds ?k_holds ?a_begins_as_a_paper ?l_begins_as_a_paper ?c_begins_as_a_paper ?k_begins_as_a_paper ?a_is_taken ?l_is_taken ?c_is_taken ?k_is_taken ?a_is_free ?l_is_free ?c_is_free ?k_is_free ?a_is_good_with ?l_is_good_with ?c_is_good_with ?k_is_good_with ?a_is_good ?l_is_good ?c_is_good ?k_is_good ?a__law_at ?l__law_at ?c__law_at ?k__law_at ?a__law_drawn ?l__law_drawn ?c__law_drawn ?k__law_drawn ?a__law_whole ?l__law_whole ?c__law_whole ?k__law_whole ?a__law_family ?l__law_family ?c__law_family ?k__law_family ?a__law_grown ?l__law_grown ?c__law_grown ?k__law_grown ?a__law_first_in ?l__law_first_in ?c__law_first_in ?k__law_first_in ?a__law_by_names ?l__law_by_names ?c__law_by_names ?k__law_by_names ?a__law_order ?l__law_order ?c__law_order ?k__law_order ?a__law_odd ?l__law_odd ?c__law_odd ?k__law_odd ?a__law_bent ?l__law_bent ?c__law_bent ?k__law_bent ?a__law_good ?l__law_good ?c__law_good ?k__law_good ?a_law ?l_law ?c_law ?k_law ?z_isinstance ?z_int ?z_bool ?z_tuple ?z_str ?z_len ?z_range ?z_sorted ?z_list
    (case a_is_whole => k_is)
    (case l_is_whole => k_is)
    (case c_is_whole => k_is)
    (case k_is_whole => k_is)
    (case a_holds => k_is)
    (case l_holds => k_is)
    (case c_holds => k_is)
    (case k_holds => k_is)
    (case a_begins_as_a_paper => k_is)
    (case l_begins_as_a_paper => k_is)
    (case c_begins_as_a_paper => k_is)
    (case k_begins_as_a_paper => k_is)
    (case a_is_taken => k_is)
    (case l_is_taken => k_is)
    (case c_is_taken => k_is)
    (case k_is_taken => k_is)
    (case a_is_free => k_is)
    (case l_is_free => k_is)
    (case c_is_free => k_is)
    (case k_is_free => k_is)
    (case a_is_good_with => k_is)
    (case l_is_good_with => k_is)
    (case c_is_good_with => k_is)
    (case k_is_good_with => k_is)
    (case a_is_good => k_is)
    (case l_is_good => k_is)
    (case c_is_good => k_is)
    (case k_is_good => k_is)
    (case a__law_at => k_is)
    (case l__law_at => k_is)
    (case c__law_at => k_is)
    (case k__law_at => k_is)
    (case a__law_drawn => k_is)
    (case l__law_drawn => k_is)
    (case c__law_drawn => k_is)
    (case k__law_drawn => k_is)
    (case a__law_whole => k_is)
    (case l__law_whole => k_is)
    (case c__law_whole => k_is)
    (case k__law_whole => k_is)
    (case a__law_family => k_is)
    (case l__law_family => k_is)
    (case c__law_family => k_is)
    (case k__law_family => k_is)
    (case a__law_grown => k_is)
    (case l__law_grown => k_is)
    (case c__law_grown => k_is)
    (case k__law_grown => k_is)
    (case a__law_first_in => k_is)
    (case l__law_first_in => k_is)
    (case c__law_first_in => k_is)
    (case k__law_first_in => k_is)
    (case a__law_by_names => k_is)
    (case l__law_by_names => k_is)
    (case c__law_by_names => k_is)
    (case k__law_by_names => k_is)
    (case a__law_order => k_is)
    (case l__law_order => k_is)
    (case c__law_order => k_is)
    (case k__law_order => k_is)
    (case a__law_odd => k_is)
    (case l__law_odd => k_is)
    (case c__law_odd => k_is)
    (case k__law_odd => k_is)
    (case a__law_bent => k_is)
    (case l__law_bent => k_is)
    (case c__law_bent => k_is)
    (case k__law_bent => k_is)
    (case a__law_good => k_is)
    (case l__law_good => k_is)
    (case c__law_good => k_is)
    (case k__law_good => k_is)
    (case a_law => k_is)
    (case l_law => k_is)
    (case c_law => k_is)
    (case k_law => k_is)
    (case z_isinstance => k_is)
    (case z_int => k_is)
    (case z_bool => k_is)
    (case z_tuple => k_is)
    (case z_str => k_is)
    (case z_len => k_is)
    (case z_range => k_is)
    (case z_sorted => k_is)
    (case z_list => k_is)
