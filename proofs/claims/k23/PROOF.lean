import PyProof.Rows.All
import Wide.All
import OpenK.AllK
import Wide.FinOn
import HandS.ForMost
import HandS.DictComp
import HandS.IsInst
import HandS.Walk
import HandS.WideBits
import HandS.Codes
import HandS.Small
import HandS.Text
import HandS.TupAny
import HandS.Flow
import HandS.SortKw
import HandS.RaiseMore
import KE.SortKeyHeap
import KE.KxText
import KE.DataEq
import HandS.ClsMeth
import HandS.Style
import PyProof.StrLawsRepr
import PySem.Challenge.RW_surerise_k23_filled_names
section
set_option Elab.async false
set_option maxRecDepth 100000
set_option linter.all false
/-! Data: values read through the abstract heap, cells that the running def alone can change. -/
namespace Dl
open PySem L2

inductive D where
  | non
  | bl (b : Bool)
  | int (i : Int)
  | str (x : Str)
  | lst (xs : List D)
  | tup (xs : List D)
  | dic (kvs : List (Key × D))
  | ins (C : Addr) (fs : List (Str × D))

mutual
inductive Dat (H : Hp) : V → D → Prop
  | non : Dat H .non .non
  | bl (b : Bool) : Dat H (.bl b) (.bl b)
  | int (i : Int) : Dat H (.int i) (.int i)
  | str (x : Str) : Dat H (.str x) (.str x)
  | lst {p : Addr} {vs : List V} {ds : List D} (h : H p = some (.lst vs)) (r : Dats H vs ds) : Dat H (.ref p) (.lst ds)
  | tup {p : Addr} {vs : List V} {ds : List D} (h : H p = some (.tup vs)) (r : Dats H vs ds) : Dat H (.ref p) (.tup ds)
  | dic {p : Addr} {kvs : List (Key × V)} {es : List (Key × D)} (h : Rd H p (.dK kvs)) (r : DatK H kvs es) : Dat H (.ref p) (.dic es)
  | ins {p C dx : Addr} {fvs : List (Str × V)} {fs : List (Str × D)} (h : H p = some (.ins C dx fvs)) (r : DatF H fvs fs) : Dat H (.ref p) (.ins C fs)
inductive Dats (H : Hp) : List V → List D → Prop
  | nil : Dats H [] []
  | cons {v : V} {d : D} {vs : List V} {ds : List D} (h : Dat H v d) (r : Dats H vs ds) : Dats H (v :: vs) (d :: ds)
inductive DatK (H : Hp) : List (Key × V) → List (Key × D) → Prop
  | nil : DatK H [] []
  | cons {k : Key} {v : V} {d : D} {kvs : List (Key × V)} {es : List (Key × D)} (h : Dat H v d) (r : DatK H kvs es) : DatK H ((k, v) :: kvs) ((k, d) :: es)
inductive DatF (H : Hp) : List (Str × V) → List (Str × D) → Prop
  | nil : DatF H [] []
  | cons {k : Str} {v : V} {d : D} {kvs : List (Str × V)} {es : List (Str × D)} (h : Dat H v d) (r : DatF H kvs es) : DatF H ((k, v) :: kvs) ((k, d) :: es)
end

/-- what reading sees of H stands in H' -/
structure Ge (H H' : Hp) : Prop where
  lst : ∀ b xs, H b = some (.lst xs) → H' b = some (.lst xs)
  tup : ∀ b xs, H b = some (.tup xs) → H' b = some (.tup xs)
  dic : ∀ b kvs, Rd H b (.dK kvs) → Rd H' b (.dK kvs)
  ins : ∀ b C dx fs, H b = some (.ins C dx fs) → H' b = some (.ins C dx fs)

theorem Ge.of {H H' : Hp} (h : Same H H') : Ge H H' :=
  ⟨fun b xs e => h b _ e, fun b xs e => h b _ e, fun b kvs e => e.elim (fun e => .inl (h b _ e)) fun ⟨o, e⟩ => .inr ⟨o, h b _ e⟩, fun b C dx fs e => h b _ e⟩

mutual
theorem Dat.mono {H H' : Hp} (g : Ge H H') : ∀ {v : V} {d : D}, Dat H v d → Dat H' v d
  | _, _, .non => .non
  | _, _, .bl b => .bl b
  | _, _, .int i => .int i
  | _, _, .str x => .str x
  | _, _, .lst h r => .lst (g.lst _ _ h) (Dats.mono g r)
  | _, _, .tup h r => .tup (g.tup _ _ h) (Dats.mono g r)
  | _, _, .dic h r => .dic (g.dic _ _ h) (DatK.mono g r)
  | _, _, .ins h r => .ins (g.ins _ _ _ _ h) (DatF.mono g r)
theorem Dats.mono {H H' : Hp} (g : Ge H H') : ∀ {v : List V} {d : List D}, Dats H v d → Dats H' v d
  | _, _, .nil => .nil
  | _, _, .cons h r => .cons (Dat.mono g h) (Dats.mono g r)
theorem DatK.mono {H H' : Hp} (g : Ge H H') : ∀ {v : List (Key × V)} {d : List (Key × D)}, DatK H v d → DatK H' v d
  | _, _, .nil => .nil
  | _, _, .cons h r => .cons (Dat.mono g h) (DatK.mono g r)
theorem DatF.mono {H H' : Hp} (g : Ge H H') : ∀ {v : List (Str × V)} {d : List (Str × D)}, DatF H v d → DatF H' v d
  | _, _, .nil => .nil
  | _, _, .cons h r => .cons (Dat.mono g h) (DatF.mono g r)
end

theorem Dats.len {H : Hp} : ∀ {vs : List V} {ds : List D}, Dats H vs ds → vs.length = ds.length
  | _, _, .nil => rfl
  | _, _, .cons _ r => congrArg (· + 1) (Dats.len r)

/-! ### cells and slots -/
def Hide (z : List Addr) (H : Hp) : Hp := fun b => if b ∈ z then none else H b
theorem hide_in {z : List Addr} {H : Hp} {b : Addr} (h : b ∈ z) : Hide z H b = none := if_pos h
theorem hide_out {z : List Addr} {H : Hp} {b : Addr} (h : b ∉ z) : Hide z H b = H b := if_neg h
theorem hide_some {z : List Addr} {H : Hp} {b : Addr} {o : HO} (e : Hide z H b = some o) : b ∉ z ∧ H b = some o := by
  by_cases h : b ∈ z
  · rw [hide_in h] at e; cases e
  · rw [hide_out h] at e; exact ⟨h, e⟩

/-- from hidden cells h at H to hidden cells h' at H' -/
structure Adv (h h' : List Addr) (H H' : Hp) : Prop where
  keep : ∀ b o, b ∉ h → H b = some o → H' b = some o
  new : ∀ b, b ∈ h' → b ∈ h ∨ H b = none
theorem Adv.refl (h : List Addr) (H : Hp) : Adv h h H H := ⟨fun _ _ _ e => e, fun _ m => .inl m⟩
theorem Adv.same {h : List Addr} {H H' : Hp} (e : Same H H') : Adv h h H H' := ⟨fun b o _ q => e b o q, fun _ m => .inl m⟩
theorem Adv.trans {h h1 h2 : List Addr} {H H1 H2 : Hp} (a : Adv h h1 H H1) (b : Adv h1 h2 H1 H2) : Adv h h2 H H2 := by
  have n1 : ∀ c o, c ∉ h → H c = some o → c ∉ h1 := fun c o hc e m => by
    rcases a.new c m with q | q
    · exact hc q
    · rw [e] at q; cases q
  refine ⟨fun c o hc e => b.keep c o (n1 c o hc e) (a.keep c o hc e), fun c m => ?_⟩
  rcases b.new c m with q | q
  · exact a.new c q
  · by_cases hc : c ∈ h
    · exact .inl hc
    · right
      cases e : H c with
      | none => rfl
      | some o => rw [a.keep c o hc e] at q; cases q
theorem Adv.ge {h h' z : List Addr} {H H' : Hp} (a : Adv h h' H H') : Same (Hide (h ++ z) H) (Hide (h' ++ z) H') := fun b o e => by
  obtain ⟨n, e⟩ := hide_some e
  have nh : b ∉ h := fun m => n (List.mem_append_left _ m)
  have nz : b ∉ z := fun m => n (List.mem_append_right _ m)
  rw [hide_out]
  · exact a.keep b o nh e
  · intro m
    rcases List.mem_append.mp m with m | m
    · rcases a.new b m with q | q
      · exact nh q
      · rw [e] at q; cases q
    · exact nz m
theorem Adv.dat {h h' z : List Addr} {H H' : Hp} (a : Adv h h' H H') {v : V} {d : D} (x : Dat (Hide (h ++ z) H) v d) : Dat (Hide (h' ++ z) H') v d := x.mono (.of a.ge)
theorem Adv.dats {h h' z : List Addr} {H H' : Hp} (a : Adv h h' H H') {v : List V} {d : List D} (x : Dats (Hide (h ++ z) H) v d) : Dats (Hide (h' ++ z) H') v d := x.mono (.of a.ge)

inductive Slot where
  | un
  | dat (d : D)
  | cell (k : Nat)
  | val (v : V)
inductive Cell where
  | lst (ds : List D)
  | dic (es : List (Key × D))
  | ins (C dx : Addr) (fs : List (Str × Slot))
  | dcs (es : List (Key × Slot))
  | dead
def Cell.live : Cell → Bool
  | .dead => false
  | _ => true
def hid : List Cell → List Addr → List Addr
  | c :: μ, a :: as => if c.live = true then a :: hid μ as else hid μ as
  | _, _ => []
theorem hid_sub : ∀ (μ : List Cell) (as : List Addr) (b : Addr), b ∈ hid μ as → b ∈ as
  | c :: μ, a :: as, b, h => by
    unfold hid at h
    split at h
    · rcases List.mem_cons.mp h with rfl | h
      · exact List.mem_cons_self
      · exact List.mem_cons_of_mem _ (hid_sub μ as b h)
    · exact List.mem_cons_of_mem _ (hid_sub μ as b h)
  | [], _, b, h => by simp [hid] at h
  | _ :: _, [], b, h => by simp [hid] at h
theorem hid_set {c c' : Cell} : ∀ {μ : List Cell} (k : Nat) (as : List Addr), μ[k]? = some c → c.live = c'.live → hid (μ.set k c') as = hid μ as
  | _ :: μ, 0, a :: as, h, e => by
    simp at h; subst h
    show hid (c' :: μ) (a :: as) = _
    unfold hid
    rw [e]
  | x :: μ, k + 1, a :: as, h, e => by
    show hid (x :: μ.set k c') (a :: as) = _
    unfold hid
    rw [hid_set k as (by simpa using h) e]
  | [], _, _, h, _ => by simp at h
  | _ :: _, 0, [], h, e => by simp [hid]
  | _ :: _, _ + 1, [], h, e => by simp [hid]
/-- without the k-th one -/
theorem hid_kill {c : Cell} {a : Addr} : ∀ {μ : List Cell} {as : List Addr} (k : Nat), μ[k]? = some c → c.live = true → as[k]? = some a → as.Nodup → ∀ b, b ∈ hid μ as ↔ b = a ∨ b ∈ hid (μ.set k .dead) as
  | x :: μ, y :: as, 0, h, e, ha, nd, b => by
    simp at h ha; subst h; subst ha
    show b ∈ hid (x :: μ) (y :: as) ↔ b = y ∨ b ∈ hid (.dead :: μ) (y :: as)
    have e1 : hid (x :: μ) (y :: as) = y :: hid μ as := if_pos e
    have e2 : hid (.dead :: μ) (y :: as) = hid μ as := rfl
    rw [e1, e2, List.mem_cons]
  | x :: μ, y :: as, k + 1, h, e, ha, nd, b => by
    have ih := hid_kill (μ := μ) (as := as) k (by simpa using h) e (by simpa using ha) (List.nodup_cons.mp nd).2 b
    show b ∈ hid (x :: μ) (y :: as) ↔ b = a ∨ b ∈ hid (x :: μ.set k .dead) (y :: as)
    unfold hid
    split
    · simp only [List.mem_cons, ih]
      constructor
      · rintro (p | p | p)
        · exact .inr (.inl p)
        · exact .inl p
        · exact .inr (.inr p)
      · rintro (p | p | p)
        · exact .inr (.inl p)
        · exact .inl p
        · exact .inr (.inr p)
    · exact ih
  | [], _, _, h, _, _, _, _ => by simp at h
  | _ :: _, [], _, _, _, h, _, _ => by simp at h
theorem hid_kill_not {c : Cell} {a : Addr} : ∀ {μ : List Cell} {as : List Addr} (k : Nat), μ[k]? = some c → as[k]? = some a → as.Nodup → a ∉ hid (μ.set k .dead) as
  | x :: μ, y :: as, 0, h, ha, nd => by
    simp at ha; subst ha
    show y ∉ hid (.dead :: μ) (y :: as)
    intro m
    simp [hid, Cell.live] at m
    exact (List.nodup_cons.mp nd).1 (hid_sub _ _ _ m)
  | x :: μ, y :: as, k + 1, h, ha, nd => by
    have ih := hid_kill_not (μ := μ) (as := as) k (by simpa using h) (by simpa using ha) (List.nodup_cons.mp nd).2
    have ny : a ≠ y := by
      rintro rfl
      exact (List.nodup_cons.mp nd).1 (List.mem_of_getElem? (by simpa using ha))
    show a ∉ hid (x :: μ.set k .dead) (y :: as)
    unfold hid
    split
    · intro m
      rcases List.mem_cons.mp m with q | q
      · exact ny q
      · exact ih q
    · exact ih
  | [], _, _, h, _, _ => by simp at h
  | _ :: _, [], _, _, h, _ => by simp at h
theorem hid_snoc {c : Cell} (a : Addr) (e : c.live = true) : ∀ {μ : List Cell} {as : List Addr}, μ.length = as.length → hid (μ ++ [c]) (as ++ [a]) = hid μ as ++ [a]
  | [], [], _ => by simp [hid, e]
  | x :: μ, y :: as, h => by
    have ih := hid_snoc a e (μ := μ) (as := as) (by simpa using h)
    show hid (x :: (μ ++ [c])) (y :: (as ++ [a])) = _
    unfold hid
    rw [ih]
    split <;> rfl
  | [], _ :: _, h => by simp at h
  | _ :: _, [], h => by simp at h

def SlotOk (h as : List Addr) (H : Hp) : Slot → Option V → Prop
  | .un, _ => True
  | .dat d, o => ∃ v, o = some v ∧ Dat (Hide h H) v d
  | .cell k, o => ∃ a, as[k]? = some a ∧ o = some (.ref a)
  | .val v, o => o = some v

def FldOk (h as : List Addr) (H : Hp) (f : Str × Slot) (g : Str × V) : Prop := f.1 = g.1 ∧ SlotOk h as H f.2 (some g.2)
def EntOk (h as : List Addr) (H : Hp) (f : Key × Slot) (g : Key × V) : Prop := f.1 = g.1 ∧ SlotOk h as H f.2 (some g.2)
def CellOk (h as : List Addr) (H : Hp) : Cell → Addr → Prop
  | .lst ds, a => ∃ vs, H a = some (.lst vs) ∧ Dats (Hide h H) vs ds
  | .dic es, a => ∃ kvs, H a = some (.dK kvs) ∧ DatK (Hide h H) kvs es
  | .ins C dx fs, a => ∃ fvs, H a = some (.ins C dx fvs) ∧ Paired (FldOk h as H) fs fvs
  | .dcs es, a => ∃ kvs, H a = some (.dK kvs) ∧ Paired (EntOk h as H) es kvs
  | .dead, _ => True

/-- the def's frame: addresses hidden by callers, the heap at the entry, the cells passed in -/
structure Fm where
  z : List Addr
  B : Hp
  ps : List Addr

structure Rel (F : Fm) (ρ : List Slot) (μ : List Cell) (as : List Addr) (σ : St) (H : Hp) : Prop where
  cells : Paired (CellOk (hid μ as ++ F.z) as H) μ as
  slots : Paired (SlotOk (hid μ as ++ F.z) as H) ρ σ
  nd : as.Nodup
  zl : ∀ a ∈ F.z, H a ≠ none
  dj : ∀ a ∈ as, a ∉ F.z
  base : ∀ b o, b ∉ F.ps → F.B b = some o → H b = some o
  pre : as.take F.ps.length = F.ps
  fresh : ∀ a ∈ as, a ∈ F.ps ∨ F.B a = none
  there : ∀ a ∈ as, H a ≠ none

theorem pd_imp {α β : Type} {F G : α → β → Prop} : ∀ {l : List α} {m : List β}, Paired F l m → (∀ a b, F a b → G a b) → Paired G l m
  | _, _, .nil, _ => .nil
  | _, _, .cons r t, f => .cons (f _ _ r) (pd_imp t f)
theorem pd_impM {α β : Type} {F G : α → β → Prop} : ∀ {l : List α} {m : List β}, Paired F l m → (∀ a b, b ∈ m → F a b → G a b) → Paired G l m
  | _, _, .nil, _ => .nil
  | _, _, .cons r t, f => .cons (f _ _ List.mem_cons_self r) (pd_impM t fun a b m => f a b (List.mem_cons_of_mem _ m))
theorem pd_get {α β : Type} {F : α → β → Prop} : ∀ {l : List α} {m : List β} {i : Nat} {a : α}, Paired F l m → l[i]? = some a → ∃ b, m[i]? = some b ∧ F a b
  | _, _, _, _, .nil, e => by simp at e
  | _, _, 0, _, .cons r _, e => by simp at e; subst e; exact ⟨_, rfl, r⟩
  | _, _, i + 1, a, .cons _ t, e => by
    obtain ⟨u, h1, h2⟩ := pd_get (i := i) (a := a) t (by simpa using e)
    exact ⟨u, by simpa using h1, h2⟩
theorem pd_set {α β : Type} {F : α → β → Prop} {a : α} {b : β} (r : F a b) : ∀ {l : List α} {m : List β} (i : Nat), Paired F l m → Paired F (l.set i a) (m.set i b)
  | _, _, _, .nil => .nil
  | _, _, 0, .cons _ t => .cons r t
  | _, _, i + 1, .cons q t => .cons q (pd_set r i t)
/-- a change at one place alone -/
theorem pd_setL {α β : Type} {F : α → β → Prop} {a : α} {b : β} : ∀ {l : List α} {m : List β} (i : Nat), Paired F l m → m[i]? = some b → F a b → Paired F (l.set i a) m
  | _, _, _, .nil, e, _ => .nil
  | _, _, 0, .cons _ t, e, r => by simp at e; subst e; exact .cons r t
  | _, _, i + 1, .cons q t, e, r => .cons q (pd_setL i t (by simpa using e) r)
theorem pd_setN {α β : Type} {F G : α → β → Prop} {a : α} {b : β} : ∀ {l : List α} {m : List β} (i : Nat), Paired F l m → m.Nodup → m[i]? = some b → G a b → (∀ x y, y ∈ m → y ≠ b → F x y → G x y) → Paired G (l.set i a) m
  | _, _, _, .nil, _, e, _, _ => .nil
  | _, y :: m, 0, .cons _ t, nd, e, r, f => by
    simp at e; subst e
    exact .cons r (pd_impM t fun x z mz q => f x z (List.mem_cons_of_mem _ mz) (fun k => (List.nodup_cons.mp nd).1 (k ▸ mz)) q)
  | x :: l, y :: m, i + 1, .cons q t, nd, e, r, f => by
    have e' : m[i]? = some b := by simpa using e
    exact .cons (f x y List.mem_cons_self (fun k => (List.nodup_cons.mp nd).1 (k ▸ List.mem_of_getElem? e')) q) (pd_setN i t (List.nodup_cons.mp nd).2 e' r fun x z mz => f x z (List.mem_cons_of_mem _ mz))
theorem pd_len {α β : Type} {F : α → β → Prop} : ∀ {l : List α} {m : List β}, Paired F l m → l.length = m.length
  | _, _, .nil => rfl
  | _, _, .cons _ t => congrArg (· + 1) (pd_len t)
theorem pd_snoc {α β : Type} {F : α → β → Prop} {a : α} {b : β} (r : F a b) : ∀ {l : List α} {m : List β}, Paired F l m → Paired F (l ++ [a]) (m ++ [b])
  | _, _, .nil => .cons r .nil
  | _, _, .cons q t => .cons q (pd_snoc r t)

theorem CellOk.there {H : Hp} {h as : List Addr} {c : Cell} {a : Addr} (r : CellOk h as H c a) (e : c.live = true) : H a ≠ none := by
  cases c with
  | lst ds => obtain ⟨vs, e, _⟩ := r; rw [e]; simp
  | dic ds => obtain ⟨vs, e, _⟩ := r; rw [e]; simp
  | ins C dx fs => obtain ⟨vs, e, _⟩ := r; rw [e]; simp
  | dcs fs => obtain ⟨vs, e, _⟩ := r; rw [e]; simp
  | dead => cases e
theorem hid_live {H : Hp} {h as0 : List Addr} : ∀ {μ : List Cell} {as : List Addr}, Paired (CellOk h as0 H) μ as → ∀ b, b ∈ hid μ as → H b ≠ none
  | _, _, .nil, b, m => by simp [hid] at m
  | c :: μ, a :: as, .cons r t, b, m => by
    unfold hid at m
    split at m
    · rcases List.mem_cons.mp m with rfl | m
      · exact r.there (by assumption)
      · exact hid_live t b m
    · exact hid_live t b m

section
variable {F : Fm} {ρ : List Slot} {μ : List Cell} {as : List Addr} {σ : St} {H H' : Hp}
theorem Rel.live (R : Rel F ρ μ as σ H) : ∀ a, a ∈ hid μ as ++ F.z → H a ≠ none := fun a m => by
  rcases List.mem_append.mp m with m | m
  · exact hid_live R.cells a m
  · exact R.zl a m
theorem SlotOk.mono {h h' as : List Addr} (g : Ge (Hide h H) (Hide h' H')) {s : Slot} {o : Option V} (r : SlotOk h as H s o) : SlotOk h' as H' s o := by
  cases s with
  | un => trivial
  | dat d => obtain ⟨v, e, x⟩ := r; exact ⟨v, e, x.mono g⟩
  | cell k => exact r
  | val v => exact r
theorem SlotOk.adv {h h' z as : List Addr} (a : Adv h h' H H') {s : Slot} {o : Option V} (r : SlotOk (h ++ z) as H s o) : SlotOk (h' ++ z) as H' s o := by
  cases s with
  | un => trivial
  | dat d => obtain ⟨v, e, x⟩ := r; exact ⟨v, e, a.dat x⟩
  | cell k => exact r
  | val v => exact r
/-- all that stood stands -/
theorem Rel.same (R : Rel F ρ μ as σ H) (e : Same H H') : Rel F ρ μ as σ H' where
  cells := pd_imp R.cells fun c a r => by
    have g : Ge (Hide (hid μ as ++ F.z) H) (Hide (hid μ as ++ F.z) H') := .of (Adv.ge (.same e))
    cases c with
    | lst ds => obtain ⟨vs, h, x⟩ := r; exact ⟨vs, e _ _ h, x.mono g⟩
    | dic ds => obtain ⟨vs, h, x⟩ := r; exact ⟨vs, e _ _ h, x.mono g⟩
    | ins C dx fs => obtain ⟨vs, h, x⟩ := r; exact ⟨vs, e _ _ h, pd_imp x fun f g' q => ⟨q.1, SlotOk.adv (.same e) q.2⟩⟩
    | dcs fs => obtain ⟨vs, h, x⟩ := r; exact ⟨vs, e _ _ h, pd_imp x fun f g' q => ⟨q.1, SlotOk.adv (.same e) q.2⟩⟩
    | dead => trivial
  slots := pd_imp R.slots fun s o r => SlotOk.adv (.same e) r
  nd := R.nd
  zl := fun a m q => by
    cases h : H a with
    | none => exact R.zl a m h
    | some o => rw [e a o h] at q; cases q
  dj := R.dj
  base := fun b o n q => e b o (R.base b o n q)
  pre := R.pre
  fresh := R.fresh
  there := fun a m q => by
    cases h : H a with
    | none => exact R.there a m h
    | some o => rw [e a o h] at q; cases q
theorem Rel.slot (R : Rel F ρ μ as σ H) {i : Nat} {s : Slot} (e : ρ[i]? = some s) : ∃ o, σ[i]? = some o ∧ SlotOk (hid μ as ++ F.z) as H s o := pd_get R.slots e
theorem Rel.put (R : Rel F ρ μ as σ H) (i : Nat) {s : Slot} {v : V} (r : SlotOk (hid μ as ++ F.z) as H s (some v)) : Rel F (ρ.set i s) μ as (σ.set i (some v)) H :=
  { R with slots := pd_set r i R.slots }
end

/-! ### what an expression, arguments, a test, a statement make of the data -/
def Ev (F : Fm) (t : TE) (ρ : List Slot) (μ : List Cell) (r : Slot) (μ' : List Cell) : Prop :=
  ∀ (as : List Addr) (σ : St) (H : Hp), Rel F ρ μ as σ H → ∀ Q : VK,
    (∀ (v : V) (as' : List Addr) (H' : Hp), Rel F ρ μ' as' σ H' → as <+: as' → Adv (hid μ as) (hid μ' as') H H' → SlotOk (hid μ' as' ++ F.z) as' H' r (some v) → Q v H') → t σ H Q
def EvA (F : Fm) (t : TA) (ρ : List Slot) (μ : List Cell) (rs : List Slot) (μ' : List Cell) : Prop :=
  ∀ (as : List Addr) (σ : St) (H : Hp), Rel F ρ μ as σ H → ∀ Q : List V → Hp → Prop,
    (∀ (vs : List V) (as' : List Addr) (H' : Hp), Rel F ρ μ' as' σ H' → as <+: as' → Adv (hid μ as) (hid μ' as') H H' → Paired (fun r v => SlotOk (hid μ' as' ++ F.z) as' H' r (some v)) rs vs → Q vs H') → t σ H Q
def EvT (F : Fm) (t : TT) (ρ : List Slot) (μ : List Cell) (b : Bool) (μ' : List Cell) : Prop :=
  ∀ (as : List Addr) (σ : St) (H : Hp), Rel F ρ μ as σ H → ∀ Q : Bool → Hp → Prop,
    (∀ (as' : List Addr) (H' : Hp), Rel F ρ μ' as' σ H' → as <+: as' → Adv (hid μ as) (hid μ' as') H H' → Q b H') → t σ H Q

inductive Out where
  | nx (ρ : List Slot) (μ : List Cell)
  | rt (r : Slot) (μ : List Cell)
  | bk (ρ : List Slot) (μ : List Cell)
  | ct (ρ : List Slot) (μ : List Cell)
/-- how far a statement has come: from the cells h at H -/
structure Far (F : Fm) (ρ : List Slot) (μ : List Cell) (as : List Addr) (h : List Addr) (H : Hp) (as' : List Addr) (σ' : St) (H' : Hp) : Prop where
  rel : Rel F ρ μ as' σ' H'
  pre : as <+: as'
  adv : Adv h (hid μ as') H H'
def OutK (F : Fm) (as h : List Addr) (H : Hp) (E : Ends) : Out → Prop
  | .nx ρ μ => ∀ (as' : List Addr) (σ' : St) (H' : Hp), Far F ρ μ as h H as' σ' H' → E.nx σ' H'
  | .bk ρ μ => ∀ (as' : List Addr) (σ' : St) (H' : Hp), Far F ρ μ as h H as' σ' H' → E.bk σ' H'
  | .ct ρ μ => ∀ (as' : List Addr) (σ' : St) (H' : Hp), Far F ρ μ as h H as' σ' H' → E.ct σ' H'
  | .rt r μ => ∀ (ρ : List Slot) (as' : List Addr) (σ' : St) (H' : Hp) (v : V), Far F ρ μ as h H as' σ' H' → SlotOk (hid μ as' ++ F.z) as' H' r (some v) → E.rt v H'
def Ws (F : Fm) (t : TS) (ρ : List Slot) (μ : List Cell) (o : Out) : Prop :=
  ∀ (as : List Addr) (σ : St) (H : Hp), Rel F ρ μ as σ H → ∀ E : Ends, OutK F as (hid μ as) H E o → t E σ H

section
variable {F : Fm} {ρ ρ1 : List Slot} {μ μ1 μ2 : List Cell} {r r1 r2 : Slot} {rs : List Slot} {ta tb tc te : TE} {t : TA} {o : Out}
theorem ev_var (i : Nat) {s : Slot} (h : ρ[i]? = some s) (hs : s ≠ .un) : Ev F (tVar i) ρ μ s μ := fun as σ H R Q k => by
  obtain ⟨o, e, x⟩ := R.slot h
  have : ∃ v, o = some v := by
    cases s with
    | un => exact absurd rfl hs
    | dat d => obtain ⟨v, e, _⟩ := x; exact ⟨v, e⟩
    | cell k => obtain ⟨a, _, e⟩ := x; exact ⟨_, e⟩
    | val v => exact ⟨v, x⟩
  obtain ⟨v, rfl⟩ := this
  exact ⟨v, e, k v as H R (List.prefix_refl _) (.refl _ _) x⟩
theorem ev_int (i : Int) : Ev F (tC (.int i)) ρ μ (.dat (.int i)) μ := fun as σ H R Q k => k _ as H R (List.prefix_refl _) (.refl _ _) ⟨_, rfl, .int i⟩
theorem ev_bl (i : Bool) : Ev F (tC (.bl i)) ρ μ (.dat (.bl i)) μ := fun as σ H R Q k => k _ as H R (List.prefix_refl _) (.refl _ _) ⟨_, rfl, .bl i⟩
theorem ev_str (i : Str) : Ev F (tC (.str i)) ρ μ (.dat (.str i)) μ := fun as σ H R Q k => k _ as H R (List.prefix_refl _) (.refl _ _) ⟨_, rfl, .str i⟩
theorem ev_non : Ev F (tC .non) ρ μ (.dat .non) μ := fun as σ H R Q k => k _ as H R (List.prefix_refl _) (.refl _ _) ⟨_, rfl, .non⟩

/-- two values of data by an operator -/
def OpD (f : R2) (d1 d2 d : D) : Prop := ∀ (z : List Addr) (H : Hp) (v1 v2 : V), (∀ a, a ∈ z → H a ≠ none) → Dat (Hide z H) v1 d1 → Dat (Hide z H) v2 d2 → ∀ Q : VK, (∀ v H', Same H H' → Dat (Hide z H') v d → Q v H') → f v1 v2 H Q
theorem prefix_trans' {a b c : List Addr} (h : a <+: b) (g : b <+: c) : a <+: c := List.IsPrefix.trans h g
theorem dat_slot {h as : List Addr} {H : Hp} {d : D} {v : V} (x : SlotOk h as H (.dat d) (some v)) : Dat (Hide h H) v d := by
  obtain ⟨w, e, y⟩ := x
  cases e
  exact y
theorem ev_op {f : R2} {d1 d2 d : D} (hf : OpD f d1 d2 d) (ha : Ev F ta ρ μ (.dat d1) μ1) (hb : Ev F tb ρ μ1 (.dat d2) μ2) : Ev F (tOp f ta tb) ρ μ (.dat d) μ2 := fun as σ H R Q k =>
  ha as σ H R _ fun v1 as1 H1 R1 p1 a1 x1 => hb as1 σ H1 R1 _ fun v2 as2 H2 R2 p2 a2 x2 =>
    hf _ H2 v1 v2 R2.live (a2.dat (dat_slot x1)) (dat_slot x2) Q fun v H3 s y => k v as2 H3 (R2.same s) (prefix_trans' p1 p2) ((a1.trans a2).trans (.same s)) ⟨v, rfl, y⟩

theorem eva_nil : EvA F tNil ρ μ [] μ := fun as σ H R Q k => k [] as H R (List.prefix_refl _) (.refl _ _) .nil
theorem SlotOk.ext {h as as' : List Addr} {H : Hp} {s : Slot} {o : Option V} (p : as <+: as') (x : SlotOk h as H s o) : SlotOk h as' H s o := by
  cases s with
  | un => trivial
  | dat d => exact x
  | cell k =>
    obtain ⟨a, e, q⟩ := x
    obtain ⟨l, rfl⟩ := p
    exact ⟨a, by rw [List.getElem?_append_left (List.getElem?_eq_some_iff.mp e).1]; exact e, q⟩
  | val v => exact x
theorem eva_cons (ha : Ev F ta ρ μ r μ1) (hb : EvA F t ρ μ1 rs μ2) : EvA F (tCons ta t) ρ μ (r :: rs) μ2 := fun as σ H R Q k =>
  ha as σ H R _ fun v as1 H1 R1 p1 a1 x1 => hb as1 σ H1 R1 _ fun vs as2 H2 R2 p2 a2 x2 =>
    k (v :: vs) as2 H2 R2 (prefix_trans' p1 p2) (a1.trans a2) (.cons (SlotOk.ext p2 (SlotOk.adv a2 x1)) x2)
theorem dats_slots {h as : List Addr} {H : Hp} : ∀ {ds : List D} {vs : List V}, Paired (fun r v => SlotOk h as H r (some v)) (ds.map Slot.dat) vs → Dats (Hide h H) vs ds
  | [], _, .nil => .nil
  | d :: ds, _, .cons x t => .cons (dat_slot x) (dats_slots t)
/-- a built-in's call by data -/
def CallD (f : List V → Hp → VK → Prop) (ds : List D) (d : D) : Prop := ∀ (z : List Addr) (H : Hp) (vs : List V), (∀ a, a ∈ z → H a ≠ none) → Dats (Hide z H) vs ds → ∀ Q : VK, (∀ v H', Same H H' → Dat (Hide z H') v d → Q v H') → f vs H Q
theorem ev_cb {f : List V → Hp → VK → Prop} {ds : List D} {d : D} (hf : CallD f ds d) (ha : EvA F t ρ μ (ds.map .dat) μ1) : Ev F (tCB f t) ρ μ (.dat d) μ1 := fun as σ H R Q k =>
  ha as σ H R _ fun vs as1 H1 R1 p1 a1 x1 => hf _ H1 vs R1.live (dats_slots x1) Q fun v H3 s y => k v as1 H3 (R1.same s) p1 (a1.trans (.same s)) ⟨v, rfl, y⟩

/-! ### promises -/
/-- a def that only reads: the data come to d -/
def spF (R : List D → D → Prop) : Sp := fun vs H Q _ => ∃ (z : List Addr) (ds : List D) (d : D), (∀ a, a ∈ z → H a ≠ none) ∧ Dats (Hide z H) vs ds ∧ R ds d ∧ ∀ v H', Same H H' → Dat (Hide z H') v d → Q v H'
/-- the pot: a list of two ints that is drawn from -/
structure Pot where
  a : Nat
  b : Nat
  hb : b < 4294967296
/-- a def that takes the pot first -/
def spP (R : Pot → List D → D → Pot → Prop) : Sp := fun vs H Q _ => ∃ (p : Addr) (ws : List V) (z : List Addr) (ds : List D) (P : Pot) (d : D) (P' : Pot), vs = .ref p :: ws ∧ p ∉ z ∧ (∀ a, a ∈ z → H a ≠ none) ∧
  H p = some (.lst [.int P.a, .int P.b]) ∧ Dats (Hide (p :: z) H) ws ds ∧ R P ds d P' ∧ ∀ v H', H' p = some (.lst [.int P'.a, .int P'.b]) → (∀ q o, q ≠ p → H q = some o → H' q = some o) → Dat (Hide (p :: z) H') v d → Q v H'
theorem ev_callF {RR : List D → D → Prop} {ds : List D} {d : D} {E : XK} (hr : RR ds d) (ha : EvA F t ρ μ (ds.map .dat) μ1) : Ev F (tCall (spF RR) [] E t) ρ μ (.dat d) μ1 := fun as σ H R Q k =>
  ha as σ H R _ fun vs as1 H1 R1 p1 a1 x1 => ⟨_, ds, d, R1.live, by rw [List.append_nil]; exact dats_slots x1, hr, fun v H3 s y => k v as1 H3 (R1.same s) p1 (a1.trans (.same s)) ⟨v, rfl, y⟩⟩
end

/-! ### cells changed, made, given away -/
theorem hide_eq {h h' : List Addr} {H : Hp} (e : ∀ b, b ∈ h ↔ b ∈ h') : Hide h H = Hide h' H := by
  funext b
  by_cases m : b ∈ h
  · rw [hide_in m, hide_in ((e b).mp m)]
  · rw [hide_out m, hide_out fun q => m ((e b).mpr q)]
section
variable {F : Fm} {ρ ρ1 : List Slot} {μ μ1 μ2 : List Cell} {as : List Addr} {σ : St} {H H' : Hp} {r r1 r2 : Slot} {rs : List Slot} {ta tb tc te : TE} {t : TA} {o : Out}
theorem CellOk.adv {h h' z as : List Addr} (g : Adv h h' H H') {c : Cell} {a : Addr} (q : ∀ u, H a = some u → H' a = some u) (r : CellOk (h ++ z) as H c a) : CellOk (h' ++ z) as H' c a := by
  cases c with
  | lst ds => obtain ⟨vs, e, x⟩ := r; exact ⟨vs, q _ e, g.dats x⟩
  | dic ds => obtain ⟨vs, e, x⟩ := r; exact ⟨vs, q _ e, x.mono (.of g.ge)⟩
  | ins C dx fs => obtain ⟨vs, e, x⟩ := r; exact ⟨vs, q _ e, pd_imp x fun f g' y => ⟨y.1, SlotOk.adv g y.2⟩⟩
  | dcs fs => obtain ⟨vs, e, x⟩ := r; exact ⟨vs, q _ e, pd_imp x fun f g' y => ⟨y.1, SlotOk.adv g y.2⟩⟩
  | dead => trivial
theorem CellOk.ext {h as as' : List Addr} {H : Hp} {c : Cell} {a : Addr} (p : as <+: as') (r : CellOk h as H c a) : CellOk h as' H c a := by
  cases c with
  | lst ds => exact r
  | dic ds => exact r
  | ins C dx fs => obtain ⟨vs, e, x⟩ := r; exact ⟨vs, e, pd_imp x fun f g' y => ⟨y.1, SlotOk.ext p y.2⟩⟩
  | dcs fs => obtain ⟨vs, e, x⟩ := r; exact ⟨vs, e, pd_imp x fun f g' y => ⟨y.1, SlotOk.ext p y.2⟩⟩
  | dead => trivial
/-- the k-th cell is changed in place -/
theorem Rel.poke (R : Rel F ρ μ as σ H) {k : Nat} {c c' : Cell} {p : Addr} (hk : μ[k]? = some c) (lv : c.live = true) (hp : as[k]? = some p) (keep : ∀ b u, b ≠ p → H b = some u → H' b = some u)
    (lv' : c'.live = true) (new : CellOk (hid μ as ++ F.z) as H' c' p) : Rel F ρ (μ.set k c') as σ H' ∧ Adv (hid μ as) (hid (μ.set k c') as) H H' := by
  have eh : hid (μ.set k c') as = hid μ as := hid_set k as hk (lv.trans lv'.symm)
  have hin : p ∈ hid μ as := (hid_kill k hk lv hp R.nd p).mpr (.inl rfl)
  have pas : p ∈ as := List.mem_of_getElem? hp
  have g : Adv (hid μ as) (hid μ as) H H' := ⟨fun b u n e => keep b u (fun q => n (q ▸ hin)) e, fun b m => .inl m⟩
  refine ⟨{ cells := ?_, slots := ?_, nd := R.nd, zl := fun a m q => ?_, dj := R.dj, base := fun b u n e => ?_, pre := R.pre, fresh := R.fresh, there := fun a m q => ?_ }, by rw [eh]; exact g⟩
  · rw [eh]
    exact pd_setN k R.cells R.nd hp new fun x y _ ny q => CellOk.adv g (fun u e => keep y u ny e) q
  · rw [eh]
    exact pd_imp R.slots fun s o r => SlotOk.adv g r
  · have np : a ≠ p := fun q => R.dj p pas (q ▸ m)
    cases h : H a with
    | none => exact R.zl a m h
    | some u => rw [keep a u np h] at q; cases q
  · have np : b ≠ p := fun q => by
      subst q
      rcases R.fresh b pas with h | h
      · exact n h
      · rw [h] at e; cases e
    exact keep b u np (R.base b u n e)
  · by_cases np : a = p
    · subst np
      exact new.there lv' q
    · cases h : H a with
      | none => exact R.there a m h
      | some u => rw [keep a u np h] at q; cases q
/-- the k-th cell is given away: what it holds is data from now on -/
theorem Rel.kill (R : Rel F ρ μ as σ H) {k : Nat} {c : Cell} {p : Addr} (hk : μ[k]? = some c) (lv : c.live = true) (hp : as[k]? = some p) :
    Rel F ρ (μ.set k .dead) as σ H ∧ Adv (hid μ as) (hid (μ.set k .dead) as) H H ∧ p ∉ hid (μ.set k .dead) as ++ F.z := by
  have pas : p ∈ as := List.mem_of_getElem? hp
  have g : Adv (hid μ as) (hid (μ.set k .dead) as) H H := ⟨fun b u n e => e, fun b m => .inl ((hid_kill k hk lv hp R.nd b).mpr (.inr m))⟩
  refine ⟨{ cells := ?_, slots := ?_, nd := R.nd, zl := R.zl, dj := R.dj, base := R.base, pre := R.pre, fresh := R.fresh, there := R.there }, g, ?_⟩
  · exact pd_setN k R.cells R.nd hp trivial fun x y _ ny q => CellOk.adv g (fun u e => e) q
  · exact pd_imp R.slots fun s o r => SlotOk.adv g r
  · intro m
    rcases List.mem_append.mp m with m | m
    · exact hid_kill_not k hk hp R.nd m
    · exact R.dj p pas m
/-- a new cell -/
theorem Rel.snoc (R : Rel F ρ μ as σ H) {c : Cell} {p : Addr} (np : H p = none) (s : Same H H') (lv : c.live = true) (new : ∀ h, Same (Hide (hid μ as ++ F.z) H) (Hide h H') → CellOk h (as ++ [p]) H' c p) :
    Rel F ρ (μ ++ [c]) (as ++ [p]) σ H' ∧ Adv (hid μ as) (hid (μ ++ [c]) (as ++ [p])) H H' := by
  have eh : hid (μ ++ [c]) (as ++ [p]) = hid μ as ++ [p] := hid_snoc p lv (pd_len R.cells)
  have g : Adv (hid μ as) (hid (μ ++ [c]) (as ++ [p])) H H' := by
    rw [eh]
    refine ⟨fun b u _ e => s b u e, fun b m => ?_⟩
    rcases List.mem_append.mp m with m | m
    · exact .inl m
    · rw [List.mem_singleton] at m
      subst m
      exact .inr np
  have pz : p ∉ F.z := fun m => R.zl p m np
  have pas : p ∉ as := fun m => R.there p m np
  have hlen : F.ps.length ≤ as.length := by
    have := congrArg List.length R.pre
    rw [List.length_take] at this
    omega
  have nw := new (hid (μ ++ [c]) (as ++ [p]) ++ F.z) g.ge
  have th : ∀ a ∈ as, H' a ≠ none := fun a m q => by
    cases h : H a with
    | none => exact R.there a m h
    | some u => rw [s a u h] at q; cases q
  refine ⟨{ cells := ?_, slots := ?_, nd := ?_, zl := fun a m q => ?_, dj := ?_, base := fun b u n e => s b u (R.base b u n e), pre := ?_, fresh := ?_, there := ?_ }, g⟩
  · exact pd_snoc nw (pd_imp R.cells fun x y q => CellOk.ext (List.prefix_append _ _) (CellOk.adv g (fun u e => s y u e) q))
  · exact pd_imp R.slots fun s o r => SlotOk.ext (List.prefix_append _ _) (SlotOk.adv g r)
  · rw [List.nodup_append]
    exact ⟨R.nd, by simp, fun a ha b hb q => pas (by rw [List.mem_singleton] at hb; subst hb; exact q ▸ ha)⟩
  · cases h : H a with
    | none => exact R.zl a m h
    | some u => rw [s a u h] at q; cases q
  · intro a m
    rcases List.mem_append.mp m with m | m
    · exact R.dj a m
    · rw [List.mem_singleton] at m
      subst m
      exact pz
  · rw [List.take_append_of_le_length hlen]
    exact R.pre
  · intro a m
    rcases List.mem_append.mp m with m | m
    · exact R.fresh a m
    · rw [List.mem_singleton] at m
      subst m
      by_cases q : a ∈ F.ps
      · exact .inl q
      · cases h : F.B a with
        | none => exact .inr rfl
        | some u => rw [R.base a u q h] at np; cases np
  · intro a m
    rcases List.mem_append.mp m with m | m
    · exact th a m
    · rw [List.mem_singleton] at m
      subst m
      exact nw.there lv
/-- an object is laid that is hidden here -/
theorem Rel.under (R : Rel F ρ μ as σ H) {p : Addr} (np : H p = none) (s : Same H H') (hp : H' p ≠ none) :
    Rel { F with z := p :: F.z } ρ μ as σ H' ∧ Same (Hide (hid μ as ++ F.z) H) (Hide (hid μ as ++ p :: F.z) H') ∧ F.B p = none ∧ p ∉ F.z := by
  have pas : p ∉ as := fun m => R.there p m np
  have pz : p ∉ F.z := fun m => R.zl p m np
  have g : Same (Hide (hid μ as ++ F.z) H) (Hide (hid μ as ++ p :: F.z) H') := fun b o e => by
    obtain ⟨n, e⟩ := hide_some e
    rw [hide_out]
    · exact s b o e
    · intro m
      rcases List.mem_append.mp m with m | m
      · exact n (List.mem_append_left _ m)
      · rcases List.mem_cons.mp m with rfl | m
        · rw [np] at e; cases e
        · exact n (List.mem_append_right _ m)
  have th : ∀ a, H a ≠ none → H' a ≠ none := fun a n q => by
    cases h : H a with
    | none => exact n h
    | some u => rw [s a u h] at q; cases q
  refine ⟨{ cells := ?_, slots := ?_, nd := R.nd, zl := ?_, dj := ?_, base := fun b u n e => s b u (R.base b u n e), pre := R.pre, fresh := R.fresh, there := fun a m => th a (R.there a m) }, g, ?_, pz⟩
  · refine pd_imp R.cells fun c a r => ?_
    cases c with
    | lst ds => obtain ⟨vs, e, x⟩ := r; exact ⟨vs, s _ _ e, x.mono (.of g)⟩
    | dic ds => obtain ⟨vs, e, x⟩ := r; exact ⟨vs, s _ _ e, x.mono (.of g)⟩
    | ins C dx fs => obtain ⟨vs, e, x⟩ := r; exact ⟨vs, s _ _ e, pd_imp x fun f g' q => ⟨q.1, SlotOk.mono (.of g) q.2⟩⟩
    | dcs fs => obtain ⟨vs, e, x⟩ := r; exact ⟨vs, s _ _ e, pd_imp x fun f g' q => ⟨q.1, SlotOk.mono (.of g) q.2⟩⟩
    | dead => trivial
  · refine pd_imp R.slots fun x o r => ?_
    cases x with
    | un => trivial
    | dat d => obtain ⟨v, e, y⟩ := r; exact ⟨v, e, y.mono (.of g)⟩
    | cell k => exact r
    | val v => exact r
  · intro a m
    rcases List.mem_cons.mp m with rfl | m
    · exact hp
    · exact th a (R.zl a m)
  · intro a m q
    rcases List.mem_cons.mp q with rfl | q
    · exact pas m
    · exact R.dj a m q
  · cases h : F.B p with
    | none => rfl
    | some u =>
      by_cases q : p ∈ F.ps
      · exact absurd (List.mem_of_mem_take (show p ∈ as.take F.ps.length by rw [R.pre]; exact q)) pas
      · rw [R.base p u q h] at np; cases np
/-- it is seen again -/
theorem Rel.over {p : Addr} (R : Rel { F with z := p :: F.z } ρ μ as σ H) (pz : p ∉ F.z) :
    Rel F ρ μ as σ H ∧ Same (Hide (hid μ as ++ p :: F.z) H) (Hide (hid μ as ++ F.z) H) ∧ p ∉ hid μ as ++ F.z := by
  have g : Same (Hide (hid μ as ++ p :: F.z) H) (Hide (hid μ as ++ F.z) H) := fun b o e => by
    obtain ⟨n, e⟩ := hide_some e
    rw [hide_out]
    · exact e
    · intro m
      rcases List.mem_append.mp m with m | m
      · exact n (List.mem_append_left _ m)
      · exact n (List.mem_append_right _ (List.mem_cons_of_mem _ m))
  refine ⟨{ cells := ?_, slots := ?_, nd := R.nd, zl := fun a m => R.zl a (List.mem_cons_of_mem _ m), dj := fun a m q => R.dj a m (List.mem_cons_of_mem _ q), base := R.base, pre := R.pre, fresh := R.fresh, there := R.there }, g, ?_⟩
  · refine pd_imp R.cells fun c a r => ?_
    cases c with
    | lst ds => obtain ⟨vs, e, x⟩ := r; exact ⟨vs, e, x.mono (.of g)⟩
    | dic ds => obtain ⟨vs, e, x⟩ := r; exact ⟨vs, e, x.mono (.of g)⟩
    | ins C dx fs => obtain ⟨vs, e, x⟩ := r; exact ⟨vs, e, pd_imp x fun f g' q => ⟨q.1, SlotOk.mono (.of g) q.2⟩⟩
    | dcs fs => obtain ⟨vs, e, x⟩ := r; exact ⟨vs, e, pd_imp x fun f g' q => ⟨q.1, SlotOk.mono (.of g) q.2⟩⟩
    | dead => trivial
  · refine pd_imp R.slots fun x o r => ?_
    cases x with
    | un => trivial
    | dat d => obtain ⟨v, e, y⟩ := r; exact ⟨v, e, y.mono (.of g)⟩
    | cell k => exact r
    | val v => exact r
  · intro m
    rcases List.mem_append.mp m with m | m
    · exact R.dj p (hid_sub _ _ _ m) List.mem_cons_self
    · exact pz m
/-- a hidden object is changed -/
theorem Rel.poke0 (R : Rel F ρ μ as σ H) {p : Addr} (pz : p ∈ F.z) (pB : F.B p = none) (keep : ∀ b u, b ≠ p → H b = some u → H' b = some u) (hp : H' p ≠ none) :
    Rel F ρ μ as σ H' ∧ Same (Hide (hid μ as ++ F.z) H) (Hide (hid μ as ++ F.z) H') := by
  have g : Same (Hide (hid μ as ++ F.z) H) (Hide (hid μ as ++ F.z) H') := fun b o e => by
    obtain ⟨n, e⟩ := hide_some e
    rw [hide_out n]
    exact keep b o (fun q => n (List.mem_append_right _ (q ▸ pz))) e
  have th : ∀ a, H a ≠ none → H' a ≠ none := fun a n q => by
    by_cases ha : a = p
    · subst ha; exact hp q
    · cases h : H a with
      | none => exact n h
      | some u => rw [keep a u ha h] at q; cases q
  refine ⟨{ cells := ?_, slots := ?_, nd := R.nd, zl := fun a m => th a (R.zl a m), dj := R.dj, base := fun b u n e => keep b u (fun q => by subst q; rw [pB] at e; cases e) (R.base b u n e), pre := R.pre, fresh := R.fresh, there := fun a m => th a (R.there a m) }, g⟩
  · refine pd_impM R.cells fun c a m r => ?_
    have na : a ≠ p := fun q => R.dj a m (q ▸ pz)
    cases c with
    | lst ds => obtain ⟨vs, e, x⟩ := r; exact ⟨vs, keep _ _ na e, x.mono (.of g)⟩
    | dic ds => obtain ⟨vs, e, x⟩ := r; exact ⟨vs, keep _ _ na e, x.mono (.of g)⟩
    | ins C dx fs => obtain ⟨vs, e, x⟩ := r; exact ⟨vs, keep _ _ na e, pd_imp x fun f g' q => ⟨q.1, SlotOk.mono (.of g) q.2⟩⟩
    | dcs fs => obtain ⟨vs, e, x⟩ := r; exact ⟨vs, keep _ _ na e, pd_imp x fun f g' q => ⟨q.1, SlotOk.mono (.of g) q.2⟩⟩
    | dead => trivial
  · refine pd_imp R.slots fun x o r => ?_
    cases x with
    | un => trivial
    | dat d => obtain ⟨v, e, y⟩ := r; exact ⟨v, e, y.mono (.of g)⟩
    | cell k => exact r
    | val v => exact r
end
end Dl
end
section
set_option Elab.async false
set_option maxRecDepth 100000
set_option linter.all false
namespace Dl
open PySem L2
/-! ### sources of walks -/
/-- J walks these data; h0, H1: what was hidden, the heap, where it began -/
def Src (h0 : List Addr) (H1 : Hp) (J : It) (items : List D) : Prop := ∃ (G : Hp → Prop) (Y : Nat → Hp → V → Hp → Prop), Walk J items.length G Y ∧ (∀ h H, Same (Hide h0 H1) (Hide h H) → G H) ∧
  ∀ i d x h H H', items[i]? = some d → Same (Hide h0 H1) (Hide h H) → (∀ a, a ∈ h → H a ≠ none) → Y i H x H' → Same H H' ∧ Dat (Hide h H') x d
def EvIat (F : Fm) (wi : TI) (ρ : List Slot) (μ : List Cell) (items : List D) (μ' : List Cell) (as : List Addr) (σ : St) (H : Hp) : Prop :=
  Rel F ρ μ as σ H → ∀ R : It → Hp → Prop,
    (∀ (J : It) (as' : List Addr) (H' : Hp), Rel F ρ μ' as' σ H' → as <+: as' → Adv (hid μ as) (hid μ' as') H H' → Src (hid μ' as' ++ F.z) H' J items → R J H') → wi σ H R
def EvI (F : Fm) (wi : TI) (ρ : List Slot) (μ : List Cell) (items : List D) (μ' : List Cell) : Prop :=
  ∀ (as : List Addr) (σ : St) (H : Hp), EvIat F wi ρ μ items μ' as σ H
def EvAt (F : Fm) (t : TE) (ρ : List Slot) (μ : List Cell) (r : Slot) (μ' : List Cell) (as : List Addr) (σ : St) (H : Hp) : Prop :=
  Rel F ρ μ as σ H → ∀ Q : VK,
    (∀ (v : V) (as' : List Addr) (H' : Hp), Rel F ρ μ' as' σ H' → as <+: as' → Adv (hid μ as) (hid μ' as') H H' → SlotOk (hid μ' as' ++ F.z) as' H' r (some v) → Q v H') → t σ H Q
def WsAt (F : Fm) (t : TS) (ρ : List Slot) (μ : List Cell) (o : Out) (as : List Addr) (σ : St) (H : Hp) : Prop :=
  Rel F ρ μ as σ H → ∀ E : Ends, OutK F as (hid μ as) H E o → t E σ H
/-- the target takes the value d; vs: the slots that it writes -/
def EvG (F : Fm) (g : TG) (vs : List Nat) (ρ : List Slot) (μ : List Cell) (d : D) (ρ' : List Slot) : Prop :=
  ∀ (as : List Addr) (σ : St) (H : Hp) (v : V), Rel F ρ μ as σ H → Dat (Hide (hid μ as ++ F.z) H) v d → ∀ Q : St → Hp → Prop, (∀ σ', Rel F ρ' μ as σ' H → wipe σ' vs = wipe σ vs → Q σ' H) → g v σ H Q

section
variable {F : Fm} {ρ ρ1 ρ2 : List Slot} {μ μ1 μ2 : List Cell} {r r1 r2 : Slot} {rs : List Slot} {ta tb tc te tl : TE} {t : TA} {o : Out}
theorem evg_name (i : Nat) {d : D} : EvG F (gName i) [i] ρ μ d (ρ.set i (.dat d)) := fun as σ H v R x Q k =>
  k _ (R.put i ⟨v, rfl, x⟩) (by simp [wipe])
theorem hide_get {h : List Addr} {H : Hp} {b : Addr} {o : HO} (e : Hide h H b = some o) : H b = some o := (hide_some e).2
theorem Dats.at_ {H : Hp} : ∀ {vs : List V} {ds : List D} {i : Nat} {d : D}, Dats H vs ds → ds[i]? = some d → ∃ v, vs[i]? = some v ∧ Dat H v d
  | _, _, _, _, .nil, e => by simp at e
  | _, _, 0, _, .cons h _, e => by simp at e; subst e; exact ⟨_, rfl, h⟩
  | _, _, i + 1, _, .cons _ r, e => by
    obtain ⟨v, h1, h2⟩ := Dats.at_ (i := i) r (by simpa using e)
    exact ⟨v, by simpa using h1, h2⟩
theorem Dats.of_at {H : Hp} : ∀ {vs : List V} {ds : List D} {i : Nat} {v : V}, Dats H vs ds → vs[i]? = some v → ∃ d, ds[i]? = some d ∧ Dat H v d
  | _, _, _, _, .nil, e => by simp at e
  | _, _, 0, _, .cons h _, e => by simp at e; subst e; exact ⟨_, rfl, h⟩
  | _, _, i + 1, _, .cons _ r, e => by
    obtain ⟨v, h1, h2⟩ := Dats.of_at (i := i) r (by simpa using e)
    exact ⟨v, by simpa using h1, h2⟩
theorem Dats.snoc {H : Hp} {v : V} {d : D} (x : Dat H v d) : ∀ {vs : List V} {ds : List D}, Dats H vs ds → Dats H (vs ++ [v]) (ds ++ [d])
  | _, _, .nil => .cons x .nil
  | _, _, .cons h r => .cons h (Dats.snoc x r)
theorem Dats.app {H : Hp} : ∀ {vs ws : List V} {ds es : List D}, Dats H vs ds → Dats H ws es → Dats H (vs ++ ws) (ds ++ es)
  | _, _, _, _, .nil, s => s
  | _, _, _, _, .cons h r, s => .cons h (Dats.app r s)
theorem dat_lst {H : Hp} {v : V} {ds : List D} (x : Dat H v (.lst ds)) : ∃ p vs, v = .ref p ∧ H p = some (.lst vs) ∧ Dats H vs ds := by
  cases x with
  | lst h r => exact ⟨_, _, rfl, h, r⟩
theorem dat_tup {H : Hp} {v : V} {ds : List D} (x : Dat H v (.tup ds)) : ∃ p vs, v = .ref p ∧ H p = some (.tup vs) ∧ Dats H vs ds := by
  cases x with
  | tup h r => exact ⟨_, _, rfl, h, r⟩
theorem dat_dic {H : Hp} {v : V} {es : List (Key × D)} (x : Dat H v (.dic es)) : ∃ p kvs, v = .ref p ∧ Rd H p (.dK kvs) ∧ DatK H kvs es := by
  cases x with
  | dic h r => exact ⟨_, _, rfl, h, r⟩
theorem dat_ins {H : Hp} {v : V} {C : Addr} {fs : List (Str × D)} (x : Dat H v (.ins C fs)) : ∃ p dx fvs, v = .ref p ∧ H p = some (.ins C dx fvs) ∧ DatF H fvs fs := by
  cases x with
  | ins h r => exact ⟨_, _, _, rfl, h, r⟩
theorem dat_int {H : Hp} {v : V} {i : Int} (x : Dat H v (.int i)) : v = .int i := by cases x; rfl
theorem dat_str {H : Hp} {v : V} {i : Str} (x : Dat H v (.str i)) : v = .str i := by cases x; rfl
theorem dat_bl {H : Hp} {v : V} {i : Bool} (x : Dat H v (.bl i)) : v = .bl i := by cases x; rfl
theorem dat_non {H : Hp} {v : V} (x : Dat H v .non) : v = .non := by cases x; rfl

theorem evi_list {K : PySem.W.Frag} {xs : List D} (hl : Ev F tl ρ μ (.dat (.lst xs)) μ1) : EvI F (iList K tl) ρ μ xs μ1 := fun as σ H R0 R k =>
  hl as σ H R0 _ fun v as1 H1 R1 p1 a1 x1 => by
    obtain ⟨p, vs, rfl, e, r⟩ := dat_lst (dat_slot x1)
    have e1 := hide_get e
    refine ⟨p, rfl, ⟨vs, SqL.of e1⟩, k _ as1 H1 R1 p1 a1 ⟨fun H => SqL K H p vs, YAt vs, ?_, ?_, ?_⟩⟩
    · rw [← r.len]; exact walk_list
    · intro h H' s
      exact SqL.of (hide_get (s _ _ e))
    · intro i d x h H2 H3 hd s _ y
      obtain ⟨rfl, y⟩ := y
      obtain ⟨v, hv, dv⟩ := r.at_ hd
      rw [hv] at y
      cases y
      exact ⟨.refl _, dv.mono (.of s)⟩
theorem evi_tup {K : PySem.W.Frag} {xs : List D} (hl : Ev F tl ρ μ (.dat (.tup xs)) μ1) : EvI F (iTup K tl) ρ μ xs μ1 := fun as σ H R0 R k =>
  hl as σ H R0 _ fun v as1 H1 R1 p1 a1 x1 => by
    obtain ⟨p, vs, rfl, e, r⟩ := dat_tup (dat_slot x1)
    have e1 := hide_get e
    refine ⟨p, rfl, ⟨vs, SqT.of e1⟩, k _ as1 H1 R1 p1 a1 ⟨fun H => SqT K H p vs, YAt vs, ?_, ?_, ?_⟩⟩
    · rw [← r.len]; exact walk_tup
    · intro h H' s
      exact SqT.of (hide_get (s _ _ e))
    · intro i d x h H2 H3 hd s _ y
      obtain ⟨rfl, y⟩ := y
      obtain ⟨v, hv, dv⟩ := r.at_ hd
      rw [hv] at y
      cases y
      exact ⟨.refl _, dv.mono (.of s)⟩
def rngD (n : Nat) (lo : Int) : List D := (List.range n).map fun i => .int (lo + (i : Nat))
theorem rngD_len (n : Nat) (lo : Int) : (rngD n lo).length = n := by simp [rngD]
theorem evi_range1 {j : Int} (ha : EvA F t ρ μ [.dat (.int j)] μ1) (h1 : -(2 ^ 62) ≤ j) (h2 : j < 2 ^ 62) : EvI F (iRng1 t) ρ μ (rngD j.toNat 0) μ1 := fun as σ H R0 R k =>
  ha as σ H R0 _ fun vs as1 H1 R1 p1 a1 x1 => by
    obtain ⟨v, rfl⟩ : ∃ v, vs = [v] := by
      cases x1 with
      | cons _ t => cases t; exact ⟨_, rfl⟩
    cases x1 with
    | cons q _ =>
      cases dat_int (dat_slot q)
      refine ⟨j, rfl, h1, h2, k _ as1 H1 R1 p1 a1 ⟨fun _ => True, YFn fun i => .int (0 + i), ?_, fun _ _ _ => trivial, ?_⟩⟩
      · rw [rngD_len]; exact walk_range
      · intro i d x h H2 H3 hd s _ y
        obtain ⟨rfl, y⟩ := y
        simp only [rngD, List.getElem?_map] at hd
        cases e : (List.range j.toNat)[i]? with
        | none => rw [e] at hd; cases hd
        | some z =>
          rw [e] at hd
          cases hd
          have : z = i := by rw [List.getElem?_range] at e; cases e; rfl; exact (by have := (List.getElem?_eq_some_iff.mp e).1; simpa using this)
          subst this
          subst y
          exact ⟨.refl _, .int _⟩
theorem Dat.upd {h : List Addr} {H : Hp} {T : Addr} {o : HO} (nT : H T = none) {v : V} {d : D} (x : Dat (Hide h H) v d) : Dat (Hide h (upd H T o)) v d := by
  refine x.mono (.of fun b u e => ?_)
  obtain ⟨n, e⟩ := hide_some e
  rw [hide_out n, upd_ne (ne_of_none e nT)]
  exact e
theorem same_upd {H : Hp} {T : Addr} {o : HO} (nT : H T = none) : Same H (upd H T o) := fun b u e => by
  rw [upd_ne (ne_of_none e nT)]
  exact e
theorem hide_new {h : List Addr} {H : Hp} {T : Addr} {o : HO} (lv : ∀ a, a ∈ h → H a ≠ none) (nT : H T = none) : Hide h (upd H T o) T = some o := by
  rw [hide_out fun m => lv T m nT, upd_same]
/-- enumerate(xs) -/
def enumD (xs : List D) : List D := xs.zipIdx.map fun p => .tup [.int (p.2 : Nat), p.1]
theorem evi_enum {K : PySem.W.Frag} {xs : List D} (ha : EvA F t ρ μ [.dat (.lst xs)] μ1) : EvI F (iEnum K t) ρ μ (enumD xs) μ1 := fun as σ H R0 R k =>
  ha as σ H R0 _ fun vs0 as1 H1 R1 p1 a1 x1 => by
    cases x1 with
    | cons q tl =>
      cases tl
      obtain ⟨p, vs, rfl, e, r⟩ := dat_lst (dat_slot q)
      have e1 := hide_get e
      refine ⟨p, vs, rfl, SqL.of e1, k _ as1 H1 R1 p1 a1 ⟨fun H => SqL K H p vs, YPair (fun i => some (.int (i : Nat))) (fun i => vs[i]?), ?_, ?_, ?_⟩⟩
      · have : (enumD xs).length = vs.length := by simp [enumD, r.len]
        rw [this]; exact walk_enum
      · intro h H' s
        exact SqL.of (hide_get (s _ _ e))
      · intro i d x h H2 H3 hd s lv y
        obtain ⟨T, u, w, rfl, nT, rfl, e2, e3⟩ := y
        cases e2
        have hx : ∃ z, xs[i]? = some z ∧ d = .tup [.int (i : Nat), z] := by
          simp only [enumD, List.getElem?_map, List.getElem?_zipIdx] at hd
          cases e : xs[i]? with
          | none => rw [e] at hd; cases hd
          | some z => rw [e] at hd; simp at hd; exact ⟨z, rfl, hd.symm⟩
        obtain ⟨z, hz, rfl⟩ := hx
        obtain ⟨v, hv, dv⟩ := r.at_ hz
        have e3 : vs[i]? = some w := e3
        rw [hv] at e3
        cases e3
        exact ⟨same_upd nT, .tup (hide_new lv nT) (.cons (.int _) (.cons (Dat.upd nT (dv.mono (.of s))) .nil))⟩

/-- a for, turn by turn: S tells the slots and cells ahead of each turn -/
theorem ws_for_at {wi : TI} {g : TG} {tb : TS} {vs : List Nat} {items : List D} {as : List Addr} {σ : St} {H : Hp} (hi : EvIat F wi ρ μ items μ1 as σ H) (S : Nat → List Slot × List Cell) (h0 : S 0 = (ρ, μ1))
    (turn : ∀ i d, items[i]? = some d → ∃ ρ', EvG F g vs (S i).1 (S i).2 d ρ' ∧ (Ws F tb ρ' (S i).2 (.nx (S (i + 1)).1 (S (i + 1)).2) ∨ Ws F tb ρ' (S i).2 (.ct (S (i + 1)).1 (S (i + 1)).2))) :
    WsAt F (tFor wi g tb) ρ μ (.nx (S items.length).1 (S items.length).2) as σ H := fun R0 E k =>
  hi R0 _ fun J as1 H1 R1 p1 a1 ⟨G, Y, w, st, ys⟩ => by
    refine for_it w (fun i σ' H' => ∃ as', Far F (S i).1 (S i).2 as1 (hid μ1 as1) H1 as' σ' H') ⟨as1, ?_⟩ (fun i σ' H' _ ⟨as', q⟩ => st _ H' q.adv.ge) ?_ ?_
    · rw [h0]
      exact ⟨R1, List.prefix_refl _, .refl _ _⟩
    · rintro i x σ' H' H'' hlt ⟨as', q⟩ y
      obtain ⟨d, hd⟩ : ∃ d, items[i]? = some d := ⟨_, List.getElem?_eq_getElem hlt⟩
      obtain ⟨ρ', hg, hb⟩ := turn i d hd
      obtain ⟨sm, dx⟩ := ys i d x _ H' H'' hd q.adv.ge q.rel.live y
      have R2 := q.rel.same sm
      refine hg as' σ' H'' x R2 dx _ fun σ2 R3 _ => ?_
      have fin : ∀ as2 σ3 H3, Far F (S (i + 1)).1 (S (i + 1)).2 as' (hid (S i).2 as') H'' as2 σ3 H3 → ∃ as2, Far F (S (i + 1)).1 (S (i + 1)).2 as1 (hid μ1 as1) H1 as2 σ3 H3 := fun as2 σ3 H3 f =>
        ⟨as2, f.rel, q.pre.trans f.pre, (q.adv.trans (.same sm)).trans f.adv⟩
      rcases hb with hb | hb
      · exact hb as' σ2 H'' R3 _ fun as2 σ3 H3 f => fin as2 σ3 H3 f
      · exact hb as' σ2 H'' R3 _ fun as2 σ3 H3 f => fin as2 σ3 H3 f
    · rintro σ' H' ⟨as', q⟩
      exact k as' σ' H' ⟨q.rel, p1.trans q.pre, a1.trans q.adv⟩
/-- a for that is left by a return in turn n -/
theorem ws_for_rt_at {wi : TI} {g : TG} {tb : TS} {vs : List Nat} {items : List D} {as : List Addr} {σ : St} {H : Hp} (hi : EvIat F wi ρ μ items μ1 as σ H) (S : Nat → List Slot × List Cell) (h0 : S 0 = (ρ, μ1)) {n : Nat} (hn : n < items.length)
    (turn : ∀ i d, i < n → items[i]? = some d → ∃ ρ', EvG F g vs (S i).1 (S i).2 d ρ' ∧ (Ws F tb ρ' (S i).2 (.nx (S (i + 1)).1 (S (i + 1)).2) ∨ Ws F tb ρ' (S i).2 (.ct (S (i + 1)).1 (S (i + 1)).2)))
    (last : ∀ d, items[n]? = some d → ∃ ρ', EvG F g vs (S n).1 (S n).2 d ρ' ∧ Ws F tb ρ' (S n).2 (.rt r μ2)) :
    WsAt F (tFor wi g tb) ρ μ (.rt r μ2) as σ H := fun R0 E k =>
  hi R0 _ fun J as1 H1 R1 p1 a1 ⟨G, Y, w, st, ys⟩ => by
    refine for_it w (fun i σ' H' => i ≤ n ∧ ∃ as', Far F (S i).1 (S i).2 as1 (hid μ1 as1) H1 as' σ' H') ⟨Nat.zero_le _, as1, ?_⟩ (fun i σ' H' _ ⟨_, as', q⟩ => st _ H' q.adv.ge) ?_ ?_
    · rw [h0]
      exact ⟨R1, List.prefix_refl _, .refl _ _⟩
    · rintro i x σ' H' H'' hlt ⟨hin, as', q⟩ y
      obtain ⟨d, hd⟩ : ∃ d, items[i]? = some d := ⟨_, List.getElem?_eq_getElem hlt⟩
      obtain ⟨sm, dx⟩ := ys i d x _ H' H'' hd q.adv.ge q.rel.live y
      have R2 := q.rel.same sm
      by_cases hi : i < n
      · obtain ⟨ρ', hg, hb⟩ := turn i d hi hd
        refine hg as' σ' H'' x R2 dx _ fun σ2 R3 _ => ?_
        have fin : ∀ as2 σ3 H3, Far F (S (i + 1)).1 (S (i + 1)).2 as' (hid (S i).2 as') H'' as2 σ3 H3 → i + 1 ≤ n ∧ ∃ as2, Far F (S (i + 1)).1 (S (i + 1)).2 as1 (hid μ1 as1) H1 as2 σ3 H3 := fun as2 σ3 H3 f =>
          ⟨hi, as2, f.rel, q.pre.trans f.pre, (q.adv.trans (.same sm)).trans f.adv⟩
        rcases hb with hb | hb
        · exact hb as' σ2 H'' R3 _ fun as2 σ3 H3 f => fin as2 σ3 H3 f
        · exact hb as' σ2 H'' R3 _ fun as2 σ3 H3 f => fin as2 σ3 H3 f
      · have e : i = n := by omega
        subst e
        obtain ⟨ρ', hg, hb⟩ := last d hd
        refine hg as' σ' H'' x R2 dx _ fun σ2 R3 _ => ?_
        exact hb as' σ2 H'' R3 _ fun ρ3 as2 σ3 H3 v f sv => k ρ3 as2 σ3 H3 v ⟨f.rel, p1.trans (q.pre.trans f.pre), a1.trans ((q.adv.trans (.same sm)).trans f.adv)⟩ sv
    · rintro σ' H' ⟨hin, _⟩
      exact absurd hn (by omega)

theorem wipe_set (σ : St) (v : Nat) : ∀ vs : List Nat, wipe (σ.set v none) vs = (wipe σ vs).set v none
  | [] => rfl
  | u :: vs => by
    show (wipe (σ.set v none) vs).set u none = ((wipe σ vs).set u none).set v none
    rw [wipe_set σ v vs]
    by_cases e : u = v
    · subst e; rfl
    · exact List.set_comm _ _ (fun q => e q.symm)
theorem wipe_wipe (σ : St) : ∀ vs : List Nat, wipe (wipe σ vs) vs = wipe σ vs
  | [] => rfl
  | v :: vs => by
    show (wipe ((wipe σ vs).set v none) vs).set v none = (wipe σ vs).set v none
    rw [wipe_set, wipe_wipe σ vs, List.set_set]
theorem pd_setR {α β : Type} {F : α → β → Prop} {a : α} {b : β} : ∀ {l : List α} {m : List β} (i : Nat), Paired F l m → l[i]? = some a → F a b → Paired F l (m.set i b)
  | _, _, _, .nil, e, _ => .nil
  | _, _, 0, .cons _ t, e, r => by simp at e; subst e; exact .cons r t
  | _, _, i + 1, .cons q t, e, r => .cons q (pd_setR i t (by simpa using e) r)
theorem pd_wipe {h as : List Addr} {H : Hp} {σ : St} : ∀ {vs : List Nat}, (∀ i ∈ vs, ρ[i]? = some .un) → (Paired (SlotOk h as H) ρ (wipe σ vs) ↔ Paired (SlotOk h as H) ρ σ)
  | [], _ => Iff.rfl
  | v :: vs, hw => by
    have ih := pd_wipe (h := h) (as := as) (H := H) (σ := σ) (fun i m => hw i (List.mem_cons_of_mem _ m))
    have hv := hw v List.mem_cons_self
    rw [← ih]
    constructor
    · intro p
      have e : wipe σ vs = ((wipe σ vs).set v none).set v ((wipe σ vs)[v]?.getD none) := by
        rw [List.set_set]
        by_cases q : v < (wipe σ vs).length
        · rw [List.getElem?_eq_getElem q]
          simp
        · rw [List.set_eq_of_length_le (by omega)]
      rw [e]
      exact pd_setR v p hv trivial
    · intro p
      exact pd_setR v p hv trivial
theorem Rel.wipe {as : List Addr} {σ : St} {H : Hp} {vs : List Nat} (hw : ∀ i ∈ vs, ρ[i]? = some .un) : Rel F ρ μ as (wipe σ vs) H ↔ Rel F ρ μ as σ H :=
  ⟨fun R => { R with slots := (pd_wipe hw).mp R.slots }, fun R => { R with slots := (pd_wipe hw).mpr R.slots }⟩

/-- a list comprehension: m: the cells ahead of each turn, ys: what it has made -/
theorem lc_core_at {wi : TI} {g : TG} {tt : TT} {te : TE} {vs : List Nat} {items : List D} {as : List Addr} {σ : St} {H : Hp} (hi : EvIat F wi ρ μ items μ1 as σ H) (hw : ∀ i ∈ vs, ρ[i]? = some .un) (hsz : items.length ≤ 1000000) (m : Nat → List Cell) (h0 : m 0 = μ1) (ys : Nat → List D) (hy0 : ys 0 = [])
    (turn : ∀ i d, items[i]? = some d → ∀ F', ∃ ρ', EvG F' g vs ρ (m i) d ρ' ∧ ∃ b m', EvT F' tt ρ' (m i) b m' ∧
      if b = true then ∃ y, Ev F' te ρ' m' (.dat y) (m (i + 1)) ∧ ys (i + 1) = ys i ++ [y] else m (i + 1) = m' ∧ ys (i + 1) = ys i) :
    ∀ R0 : Rel F ρ μ as σ H, ∀ Q : VK, (∀ (L : Addr) (acc : List V) (as' : List Addr) (H' : Hp), H L = none → L ∉ F.z → F.B L = none → H' L = some (.lst acc) → Rel { F with z := L :: F.z } ρ (m items.length) as' σ H' → as <+: as' →
      Adv (hid μ as) (hid (m items.length) as') H H' → Dats (Hide (hid (m items.length) as' ++ L :: F.z) H') acc (ys items.length) → Q (.ref L) H') → tLc wi g tt te vs σ H Q := fun R0 Q k =>
  hi R0 _ fun J as1 H1 R1 p1 a1 ⟨G, Y, w, st, yd⟩ L nL => by
    obtain ⟨RL, gL, BL, Lz⟩ := R1.under (H' := upd H1 L (.lst [])) nL (same_upd nL) (by rw [upd_same]; simp)
    have aL : Adv (hid μ1 as1) (hid μ1 as1) H1 (upd H1 L (.lst [])) := .same (same_upd nL)
    have see : ∀ i as' H', Adv (hid μ1 as1) (hid (m i) as') H1 H' → Same (Hide (hid μ1 as1 ++ F.z) H1) (Hide (hid (m i) as' ++ L :: F.z) H') := fun i as' H' a b o e => by
      have e' := a.ge (z := F.z) b o e
      obtain ⟨n, e'⟩ := hide_some e'
      rw [hide_out]
      · exact e'
      · intro q
        rcases List.mem_append.mp q with q | q
        · exact n (List.mem_append_left _ q)
        · rcases List.mem_cons.mp q with rfl | q
          · rw [hide_get e] at nL; cases nL
          · exact n (List.mem_append_right _ q)
    refine lc_it w (fun i H' => ∃ as' acc, H' L = some (.lst acc) ∧ Rel { F with z := L :: F.z } ρ (m i) as' (wipe σ vs) H' ∧ as1 <+: as' ∧ Adv (hid μ1 as1) (hid (m i) as') H1 H' ∧
      Dats (Hide (hid (m i) as' ++ L :: F.z) H') acc (ys i) ∧ (ys i).length ≤ i) ?_ (fun i H' _ ⟨as', _, _, _, _, a, _⟩ => st _ H' (see i as' H' a)) ?_ ?_
    · refine ⟨as1, [], upd_same, ?_, List.prefix_refl _, ?_, ?_, ?_⟩
      · rw [h0]; exact (Rel.wipe hw).mpr RL
      · rw [h0]; exact aL
      · rw [hy0]; exact .nil
      · rw [hy0]; exact Nat.le_refl _
    · rintro i x H' H'' hlt ⟨as', acc, eL, RR, pp, aa, da, hlen⟩ y
      obtain ⟨d, hd⟩ : ∃ d, items[i]? = some d := ⟨_, List.getElem?_eq_getElem hlt⟩
      obtain ⟨ρ', hg, b, m', ht, hb⟩ := turn i d hd { F with z := L :: F.z }
      obtain ⟨sm, dx⟩ := yd i d x _ H' H'' hd (see i as' H' aa) RR.live y
      have R2 := RR.same sm
      refine hg as' (wipe σ vs) H'' x R2 dx _ fun σ2 R3 hwp => ⟨hwp.trans (wipe_wipe σ vs), ?_⟩
      refine ht as' σ2 H'' R3 _ fun as2 H3 R4 p2 a2 => ?_
      have aX : Adv (hid (m i) as') (hid m' as2) H' H3 := (Adv.same sm).trans a2
      have keepL : ∀ {h' : List Addr} {Hn : Hp}, Adv (hid (m i) as') h' H' Hn → Hn L = some (.lst acc) := fun {h' Hn} a => a.keep L _ (fun q => RR.dj L (hid_sub _ _ _ q) List.mem_cons_self) eL
      -- what the slots said stays said
      have back : ∀ {mm : List Cell} {as3 : List Addr} {Hn : Hp} {ρ3 : List Slot} {σ3 : St}, Rel { F with z := L :: F.z } ρ3 mm as3 σ3 Hn → as' <+: as3 → Adv (hid (m i) as') (hid mm as3) H' Hn → Rel { F with z := L :: F.z } ρ mm as3 (wipe σ vs) Hn := fun R p a =>
        { R with slots := pd_imp RR.slots fun s o q => SlotOk.ext p (SlotOk.adv a q) }
      cases b with
      | true =>
        rw [if_pos rfl] at hb
        rw [if_pos rfl]
        obtain ⟨yv, he, hys⟩ := hb
        refine he as2 σ2 H3 R4 _ fun v as3 H4 R5 p3 a3 sv => ?_
        have aY : Adv (hid (m i) as') (hid (m (i + 1)) as3) H' H4 := aX.trans a3
        have e4 := keepL aY
        refine ⟨acc, e4, ?_, ?_⟩
        · have q1 := da.len
          have : sizeLine > 1000000 := by decide
          omega
        · have kk : ∀ b u, b ≠ L → H4 b = some u → (upd H4 L (.lst (acc ++ [v]))) b = some u := fun b u n e => by rw [upd_ne n]; exact e
          obtain ⟨R6, g6⟩ := (back R5 (p2.trans p3) aY).poke0 (p := L) List.mem_cons_self BL kk (by rw [upd_same]; simp)
          refine ⟨as3, acc ++ [v], upd_same, R6, pp.trans (p2.trans p3), ?_, ?_, ?_⟩
          · have aZ := aa.trans aY
            exact ⟨fun c u n e => kk c u (fun q => by subst q; rw [e] at nL; cases nL) (aZ.keep c u n e), aZ.new⟩
          · rw [hys]
            exact Dats.snoc ((dat_slot sv).mono (.of g6)) ((aY.dats da).mono (.of g6))
          · rw [hys, List.length_append, List.length_singleton]
            omega
      | false =>
        rw [if_neg (by decide)] at hb
        rw [if_neg (by decide)]
        obtain ⟨hm, hys⟩ := hb
        refine ⟨as2, acc, keepL aX, ?_, pp.trans p2, ?_, ?_, ?_⟩
        · rw [hm]; exact back R4 p2 aX
        · rw [hm]; exact aa.trans aX
        · rw [hm, hys]; exact aX.dats da
        · rw [hys]; omega
    · rintro H' ⟨as', acc, eL, RR, pp, aa, da, hlen⟩
      have nL0 : H L = none := by
        cases h : H L with
        | none => rfl
        | some u =>
          exact absurd (a1.keep L u (fun q => R1.there L (p1.subset (hid_sub _ _ _ q)) nL) h) (by rw [nL]; simp)
      exact k L acc as' H' nL0 Lz BL eL ((Rel.wipe hw).mp RR) (p1.trans pp) (a1.trans aa) da
theorem ev_lc_at {wi : TI} {g : TG} {tt : TT} {te : TE} {vs : List Nat} {items : List D} {as : List Addr} {σ : St} {H : Hp} (hi : EvIat F wi ρ μ items μ1 as σ H) (hw : ∀ i ∈ vs, ρ[i]? = some .un) (hsz : items.length ≤ 1000000) (m : Nat → List Cell) (h0 : m 0 = μ1) (ys : Nat → List D) (hy0 : ys 0 = [])
    (turn : ∀ i d, items[i]? = some d → ∀ F', ∃ ρ', EvG F' g vs ρ (m i) d ρ' ∧ ∃ b m', EvT F' tt ρ' (m i) b m' ∧
      if b = true then ∃ y, Ev F' te ρ' m' (.dat y) (m (i + 1)) ∧ ys (i + 1) = ys i ++ [y] else m (i + 1) = m' ∧ ys (i + 1) = ys i) :
    EvAt F (tLc wi g tt te vs) ρ μ (.dat (.lst (ys items.length))) (m items.length) as σ H := fun R0 Q k =>
  lc_core_at hi hw hsz m h0 ys hy0 turn R0 Q fun L acc as' H' _ Lz _ eL RR pp aa da => by
    obtain ⟨R6, g6, nL6⟩ := RR.over Lz
    refine k _ as' H' R6 pp aa ⟨_, rfl, .lst ?_ (da.mono (.of g6))⟩
    rw [hide_out nL6]
    exact eL
/-- over keys of a dict etc. the same at every state -/
theorem ws_for {wi : TI} {g : TG} {tb : TS} {vs : List Nat} {items : List D} (hi : EvI F wi ρ μ items μ1) (S : Nat → List Slot × List Cell) (h0 : S 0 = (ρ, μ1))
    (turn : ∀ i d, items[i]? = some d → ∃ ρ', EvG F g vs (S i).1 (S i).2 d ρ' ∧ (Ws F tb ρ' (S i).2 (.nx (S (i + 1)).1 (S (i + 1)).2) ∨ Ws F tb ρ' (S i).2 (.ct (S (i + 1)).1 (S (i + 1)).2))) :
    Ws F (tFor wi g tb) ρ μ (.nx (S items.length).1 (S items.length).2) := fun as σ H => ws_for_at (hi as σ H) S h0 turn
theorem ws_for_rt {wi : TI} {g : TG} {tb : TS} {vs : List Nat} {items : List D} (hi : EvI F wi ρ μ items μ1) (S : Nat → List Slot × List Cell) (h0 : S 0 = (ρ, μ1)) {n : Nat} (hn : n < items.length)
    (turn : ∀ i d, i < n → items[i]? = some d → ∃ ρ', EvG F g vs (S i).1 (S i).2 d ρ' ∧ (Ws F tb ρ' (S i).2 (.nx (S (i + 1)).1 (S (i + 1)).2) ∨ Ws F tb ρ' (S i).2 (.ct (S (i + 1)).1 (S (i + 1)).2)))
    (last : ∀ d, items[n]? = some d → ∃ ρ', EvG F g vs (S n).1 (S n).2 d ρ' ∧ Ws F tb ρ' (S n).2 (.rt r μ2)) :
    Ws F (tFor wi g tb) ρ μ (.rt r μ2) := fun as σ H => ws_for_rt_at (hi as σ H) S h0 hn turn last
theorem ev_lc {wi : TI} {g : TG} {tt : TT} {te : TE} {vs : List Nat} {items : List D} (hi : EvI F wi ρ μ items μ1) (hw : ∀ i ∈ vs, ρ[i]? = some .un) (hsz : items.length ≤ 1000000) (m : Nat → List Cell) (h0 : m 0 = μ1) (ys : Nat → List D) (hy0 : ys 0 = [])
    (turn : ∀ i d, items[i]? = some d → ∀ F', ∃ ρ', EvG F' g vs ρ (m i) d ρ' ∧ ∃ b m', EvT F' tt ρ' (m i) b m' ∧
      if b = true then ∃ y, Ev F' te ρ' m' (.dat y) (m (i + 1)) ∧ ys (i + 1) = ys i ++ [y] else m (i + 1) = m' ∧ ys (i + 1) = ys i) :
    Ev F (tLc wi g tt te vs) ρ μ (.dat (.lst (ys items.length))) (m items.length) := fun as σ H => ev_lc_at (hi as σ H) hw hsz m h0 ys hy0 turn
/-- what a comprehension makes of the first i items -/
def fmI {α β : Type} (p : α → Bool) (f : α → β) (xs : List α) (i : Nat) : List β := ((xs.take i).filter p).map f
theorem fmI_succ {α β : Type} (p : α → Bool) (f : α → β) {xs : List α} {i : Nat} {a : α} (h : xs[i]? = some a) : fmI p f xs (i + 1) = fmI p f xs i ++ (if p a = true then [f a] else []) := by
  unfold fmI
  rw [List.take_add_one, h, Option.toList_some, List.filter_append, List.map_append]
  by_cases e : p a = true
  · simp [e]
  · simp [e]
/-- a comprehension that changes nothing, over encoded things -/
theorem ev_lcF_at {α : Type} {enc : α → D} {xs : List α} {p : α → Bool} {f : α → D} {ρ' : α → List Slot} {wi : TI} {g : TG} {tt : TT} {te : TE} {vs : List Nat} {as : List Addr} {σ : St} {H : Hp} (hi : EvIat F wi ρ μ (xs.map enc) μ1 as σ H) (hw : ∀ i ∈ vs, ρ[i]? = some .un) (hsz : xs.length ≤ 1000000)
    (hg : ∀ F' a, EvG F' g vs ρ μ1 (enc a) (ρ' a)) (ht : ∀ F' a, a ∈ xs → EvT F' tt (ρ' a) μ1 (p a) μ1) (he : ∀ F' a, a ∈ xs → p a = true → Ev F' te (ρ' a) μ1 (.dat (f a)) μ1) :
    EvAt F (tLc wi g tt te vs) ρ μ (.dat (.lst ((xs.filter p).map f))) μ1 as σ H := by
  have h := ev_lc_at (tt := tt) (te := te) (g := g) (vs := vs) hi hw (by rw [List.length_map]; exact hsz) (fun _ => μ1) rfl (fmI p f xs) rfl fun i d hd F' => by
    rw [List.getElem?_map] at hd
    cases e : xs[i]? with
    | none => rw [e] at hd; cases hd
    | some a =>
      rw [e] at hd
      cases hd
      have m := List.mem_of_getElem? e
      refine ⟨ρ' a, hg F' a, p a, μ1, ht F' a m, ?_⟩
      rw [fmI_succ p f e]
      split
      · exact ⟨f a, he F' a m (by assumption), rfl⟩
      · exact ⟨rfl, by simp⟩
  have e : fmI p f xs (xs.map enc).length = (xs.filter p).map f := by
    unfold fmI
    rw [List.length_map, List.take_length]
  rw [e] at h
  exact h
theorem ev_lcF {α : Type} {enc : α → D} {xs : List α} {p : α → Bool} {f : α → D} {ρ' : α → List Slot} {wi : TI} {g : TG} {tt : TT} {te : TE} {vs : List Nat} (hi : EvI F wi ρ μ (xs.map enc) μ1) (hw : ∀ i ∈ vs, ρ[i]? = some .un) (hsz : xs.length ≤ 1000000)
    (hg : ∀ F' a, EvG F' g vs ρ μ1 (enc a) (ρ' a)) (ht : ∀ F' a, a ∈ xs → EvT F' tt (ρ' a) μ1 (p a) μ1) (he : ∀ F' a, a ∈ xs → p a = true → Ev F' te (ρ' a) μ1 (.dat (f a)) μ1) :
    Ev F (tLc wi g tt te vs) ρ μ (.dat (.lst ((xs.filter p).map f))) μ1 := fun as σ H => ev_lcF_at (hi as σ H) hw hsz hg ht he
end
end Dl
end
section
set_option Elab.async false
set_option maxRecDepth 100000
set_option linter.all false
namespace Dl
open PySem L2
section
variable {F : Fm} {ρ ρ1 ρ2 : List Slot} {μ μ1 μ2 μ3 : List Cell} {r r1 r2 : Slot} {rs : List Slot} {ta tb tc te tl : TE} {t : TA} {o o1 o2 : Out} {tt tu : TT} {ts us : TS}

/-! ### operators -/
theorem opd_I0 {g : Int → Int → V} {i j : Int} {d : D} (h : ∀ H, Dat H (g i j) d) : OpD (rI0 g) (.int i) (.int j) d := fun z H v1 v2 lv x y Q k => by
  cases dat_int x; cases dat_int y
  exact ⟨i, j, rfl, rfl, k _ H (.refl _) (h _)⟩
theorem opd_I {C : Int → Int → Prop} {g : Int → Int → V} {i j : Int} {d : D} (hC : C i j) (h : ∀ H, Dat H (g i j) d) : OpD (rI C g) (.int i) (.int j) d := fun z H v1 v2 lv x y Q k => by
  cases dat_int x; cases dat_int y
  exact ⟨i, j, rfl, rfl, hC, k _ H (.refl _) (h _)⟩
theorem opd_add {i j : Int} : OpD (rI0 fun i j => .int (i + j)) (.int i) (.int j) (.int (i + j)) := opd_I0 fun _ => .int _
theorem opd_sub {i j : Int} : OpD (rI0 fun i j => .int (i - j)) (.int i) (.int j) (.int (i - j)) := opd_I0 fun _ => .int _
theorem opd_lt {i j : Int} : OpD (rI0 fun i j => .bl (decide (i < j))) (.int i) (.int j) (.bl (decide (i < j))) := opd_I0 fun _ => .bl _
theorem opd_le {i j : Int} : OpD (rI0 fun i j => .bl (decide (i ≤ j))) (.int i) (.int j) (.bl (decide (i ≤ j))) := opd_I0 fun _ => .bl _
theorem opd_gt {i j : Int} : OpD (rI0 fun i j => .bl (decide (j < i))) (.int i) (.int j) (.bl (decide (j < i))) := opd_I0 fun _ => .bl _
theorem opd_ge {i j : Int} : OpD (rI0 fun i j => .bl (decide (j ≤ i))) (.int i) (.int j) (.bl (decide (j ≤ i))) := opd_I0 fun _ => .bl _
theorem opd_adds {i j : Str} (h : i.length + j.length ≤ sizeLine) : OpD (fun x y H Q => ∃ i j, x = .str i ∧ y = .str j ∧ i.length + j.length ≤ sizeLine ∧ Q (.str (i ++ j)) H) (.str i) (.str j) (.str (i ++ j)) := fun z H v1 v2 lv x y Q k => by
  cases dat_str x; cases dat_str y
  exact ⟨i, j, rfl, rfl, h, k _ H (.refl _) (.str _)⟩
/-- flat data: what ==, in compare by value -/
def flat : D → Option V
  | .non => some .non
  | .bl b => some (.bl b)
  | .int i => some (.int i)
  | .str x => some (.str x)
  | _ => none
theorem dat_flat {H : Hp} {v w : V} {d : D} (x : Dat H v d) (e : flat d = some w) : v = w := by
  cases x <;> simp [flat] at e <;> exact e
theorem dats_flat {H : Hp} : ∀ {vs : List V} {ds : List D} {ws : List V}, Dats H vs ds → ds.map flat = ws.map some → vs = ws
  | _, _, [], .nil, _ => rfl
  | _, _, _ :: _, .nil, e => by simp at e
  | _, _, [], .cons _ _, e => by simp at e
  | _, _, w :: ws, .cons x r, e => by
    simp only [List.map_cons, List.cons.injEq] at e
    rw [dat_flat x e.1, dats_flat r e.2]
theorem opd_eq {d1 d2 : D} {w1 w2 : V} (h1 : flat d1 = some w1) (h2 : flat d2 = some w2) (hs : scal w1 w2 = true) : OpD rEq d1 d2 (.bl (decide (w1 = w2))) := fun z H v1 v2 lv x y Q k => by
  cases dat_flat x h1; cases dat_flat y h2
  exact ⟨hs, k _ H (.refl _) (.bl _)⟩
theorem opd_ne {d1 d2 : D} {w1 w2 : V} (h1 : flat d1 = some w1) (h2 : flat d2 = some w2) (hs : scal w1 w2 = true) : OpD rNe d1 d2 (.bl (!decide (w1 = w2))) := fun z H v1 v2 lv x y Q k => by
  cases dat_flat x h1; cases dat_flat y h2
  exact ⟨hs, k _ H (.refl _) (.bl _)⟩
theorem opd_eqS {a b : Str} : OpD rEq (.str a) (.str b) (.bl (decide (a = b))) := by
  have h := opd_eq (d1 := .str a) (d2 := .str b) rfl rfl rfl
  have e : decide (V.str a = V.str b) = decide (a = b) := by simp
  rw [e] at h; exact h
theorem opd_neS {a b : Str} : OpD rNe (.str a) (.str b) (.bl (!decide (a = b))) := by
  have h := opd_ne (d1 := .str a) (d2 := .str b) rfl rfl rfl
  have e : decide (V.str a = V.str b) = decide (a = b) := by simp
  rw [e] at h; exact h
theorem opd_eqI {a b : Int} : OpD rEq (.int a) (.int b) (.bl (decide (a = b))) := by
  have h := opd_eq (d1 := .int a) (d2 := .int b) rfl rfl rfl
  have e : decide (V.int a = V.int b) = decide (a = b) := by simp
  rw [e] at h; exact h
theorem opd_neI {a b : Int} : OpD rNe (.int a) (.int b) (.bl (!decide (a = b))) := by
  have h := opd_ne (d1 := .int a) (d2 := .int b) rfl rfl rfl
  have e : decide (V.int a = V.int b) = decide (a = b) := by simp
  rw [e] at h; exact h
/-- x in xs, flat things in a list or tuple -/
theorem opd_in {K : PySem.W.Frag} {neg : Bool} {d : D} {w : V} {ds : List D} {ws : List V} (h1 : flat d = some w) (hf : flatV w = true) (h2 : ds.map flat = ws.map some) (hfs : ws.all flatV = true) {dl : D} (hl : dl = .lst ds ∨ dl = .tup ds) :
    OpD (rIn K neg) d dl (.bl (if neg = true then !inV w ws else inV w ws)) := fun z H v1 v2 lv x y Q k => by
  cases dat_flat x h1
  rcases hl with rfl | rfl
  · obtain ⟨p, vs, rfl, e, q⟩ := dat_lst y
    cases dats_flat q h2
    exact ⟨p, _, rfl, .inl (SqL.of (hide_get e)), hf, hfs, k _ H (.refl _) (.bl _)⟩
  · obtain ⟨p, vs, rfl, e, q⟩ := dat_tup y
    cases dats_flat q h2
    exact ⟨p, _, rfl, .inr (SqT.of (hide_get e)), hf, hfs, k _ H (.refl _) (.bl _)⟩
theorem flat_strs (xs : List Str) : (xs.map D.str).map flat = (xs.map V.str).map some := by
  rw [List.map_map, List.map_map]; rfl
theorem all_flat_strs (xs : List Str) : (xs.map V.str).all flatV = true := by
  rw [List.all_map]; exact List.all_eq_true.mpr fun _ _ => rfl
theorem inV_strs (x : Str) (xs : List Str) : inV (.str x) (xs.map V.str) = decide (x ∈ xs) := by
  unfold inV
  rw [List.any_map]
  induction xs with
  | nil => rfl
  | cons y ys ih =>
    rw [List.any_cons, ih]
    simp only [Function.comp, eqV]
    by_cases h : y = x
    · subst h; simp
    · have h' : ¬ x = y := fun e => h e.symm
      simp [h, h']
theorem opd_inS {K : PySem.W.Frag} {x : Str} {xs : List Str} : OpD (rIn K false) (.str x) (.lst (xs.map .str)) (.bl (decide (x ∈ xs))) := by
  have h := opd_in (K := K) (neg := false) (d := .str x) rfl rfl (flat_strs xs) (all_flat_strs xs) (.inl rfl)
  simp only [Bool.false_eq_true, if_false, inV_strs] at h
  exact h
theorem opd_notinS {K : PySem.W.Frag} {x : Str} {xs : List Str} : OpD (rIn K true) (.str x) (.lst (xs.map .str)) (.bl (!decide (x ∈ xs))) := by
  have h := opd_in (K := K) (neg := true) (d := .str x) rfl rfl (flat_strs xs) (all_flat_strs xs) (.inl rfl)
  simp only [if_true, inV_strs] at h
  exact h
theorem opd_inT {K : PySem.W.Frag} {x : Str} {xs : List Str} : OpD (rIn K false) (.str x) (.tup (xs.map .str)) (.bl (decide (x ∈ xs))) := by
  have h := opd_in (K := K) (neg := false) (d := .str x) rfl rfl (flat_strs xs) (all_flat_strs xs) (.inr rfl)
  simp only [Bool.false_eq_true, if_false, inV_strs] at h
  exact h
theorem opd_notinT {K : PySem.W.Frag} {x : Str} {xs : List Str} : OpD (rIn K true) (.str x) (.tup (xs.map .str)) (.bl (!decide (x ∈ xs))) := by
  have h := opd_in (K := K) (neg := true) (d := .str x) rfl rfl (flat_strs xs) (all_flat_strs xs) (.inr rfl)
  simp only [if_true, inV_strs] at h
  exact h
/-! ### items -/
theorem Dats.atI {H : Hp} {vs : List V} {ds : List D} {i : Int} {d : D} (r : Dats H vs ds) (e : atI ds i = some d) : ∃ v, L2.atI vs i = some v ∧ Dat H v d := by
  unfold L2.atI at e ⊢
  rw [r.len]
  cases h : ixN ds.length i with
  | none => rw [h] at e; cases e
  | some j =>
    rw [h] at e
    exact r.at_ e
theorem opd_ixL {K : PySem.W.Frag} {ds : List D} {i : Int} {d : D} (e : atI ds i = some d) : OpD (rIxL K) (.lst ds) (.int i) d := fun z H v1 v2 lv x y Q k => by
  obtain ⟨p, vs, rfl, h, q⟩ := dat_lst x
  cases dat_int y
  obtain ⟨v, hv, dv⟩ := q.atI e
  exact ⟨p, vs, i, v, rfl, rfl, SqL.of (hide_get h), hv, k v H (.refl _) dv⟩
theorem opd_ixT {K : PySem.W.Frag} {ds : List D} {i : Int} {d : D} (e : atI ds i = some d) : OpD (rIxT K) (.tup ds) (.int i) d := fun z H v1 v2 lv x y Q k => by
  obtain ⟨p, vs, rfl, h, q⟩ := dat_tup x
  cases dat_int y
  obtain ⟨v, hv, dv⟩ := q.atI e
  exact ⟨p, vs, i, v, rfl, rfl, SqT.of (hide_get h), hv, k v H (.refl _) dv⟩
theorem opd_ixS {s : Str} {i : Int} {c : Nat} (hs : s.length ≤ sizeLine) (e : atI s.cps.toList i = some c) : OpD rIxS (.str s) (.int i) (.str ⟨#[c]⟩) := fun z H v1 v2 lv x y Q k => by
  cases dat_str x; cases dat_int y
  exact ⟨s, i, c, rfl, rfl, hs, e, k _ H (.refl _) (.str _)⟩
/-! ### built-ins -/
theorem dats_1 {H : Hp} {vs : List V} {d : D} (r : Dats H vs [d]) : ∃ v, vs = [v] ∧ Dat H v d := by
  cases r with
  | cons x t => cases t; exact ⟨_, rfl, x⟩
theorem dats_2 {H : Hp} {vs : List V} {d e : D} (r : Dats H vs [d, e]) : ∃ v w, vs = [v, w] ∧ Dat H v d ∧ Dat H w e := by
  cases r with
  | cons x t =>
    obtain ⟨w, rfl, y⟩ := dats_1 t
    exact ⟨_, _, rfl, x, y⟩
theorem cd_len {K : PySem.W.Frag} {ds : List D} : CallD (fun xs H Q => ∃ p ys, xs = [.ref p] ∧ (SqL K H p ys ∨ SqT K H p ys) ∧ Q (.int ys.length) H) [.lst ds] (.int ds.length) := fun z H vs lv x Q k => by
  obtain ⟨v, rfl, x1⟩ := dats_1 x; replace x := x1
  obtain ⟨p, vs, rfl, h, q⟩ := dat_lst x
  refine ⟨p, vs, rfl, .inl (SqL.of (hide_get h)), ?_⟩
  rw [q.len]
  exact k _ H (.refl _) (.int _)
theorem cd_lenT {K : PySem.W.Frag} {ds : List D} : CallD (fun xs H Q => ∃ p ys, xs = [.ref p] ∧ (SqL K H p ys ∨ SqT K H p ys) ∧ Q (.int ys.length) H) [.tup ds] (.int ds.length) := fun z H vs lv x Q k => by
  obtain ⟨v, rfl, x1⟩ := dats_1 x; replace x := x1
  obtain ⟨p, vs, rfl, h, q⟩ := dat_tup x
  refine ⟨p, vs, rfl, .inr (SqT.of (hide_get h)), ?_⟩
  rw [q.len]
  exact k _ H (.refl _) (.int _)
theorem cd_lenS {s : Str} (hs : s.length ≤ sizeLine) : CallD (fun xs H Q => ∃ z, xs = [.str z] ∧ z.length ≤ sizeLine ∧ Q (.int z.length) H) [.str s] (.int s.length) := fun z H vs lv x Q k => by
  obtain ⟨v, rfl, x1⟩ := dats_1 x; replace x := x1
  cases dat_str x
  exact ⟨s, rfl, hs, k _ H (.refl _) (.int _)⟩
theorem cd_abs {i : Int} : CallD (fun xs H Q => ∃ i, xs = [.int i] ∧ Q (.int (if i < 0 then -i else i)) H) [.int i] (.int (if i < 0 then -i else i)) := fun z H vs lv x Q k => by
  obtain ⟨v, rfl, x1⟩ := dats_1 x; replace x := x1
  cases dat_int x
  exact ⟨i, rfl, k _ H (.refl _) (.int _)⟩
theorem cd_max {i j : Int} : CallD (fun xs H Q => ∃ i j, xs = [.int i, .int j] ∧ Q (.int (if j > i then j else i)) H) [.int i, .int j] (.int (if j > i then j else i)) := fun z H vs lv x Q k => by
  obtain ⟨v, w, rfl, x, y⟩ := dats_2 x
  cases dat_int x; cases dat_int y
  exact ⟨i, j, rfl, k _ H (.refl _) (.int _)⟩
theorem cd_min {i j : Int} : CallD (fun xs H Q => ∃ i j, xs = [.int i, .int j] ∧ Q (.int (if j < i then j else i)) H) [.int i, .int j] (.int (if j < i then j else i)) := fun z H vs lv x Q k => by
  obtain ⟨v, w, rfl, x, y⟩ := dats_2 x
  cases dat_int x; cases dat_int y
  exact ⟨i, j, rfl, k _ H (.refl _) (.int _)⟩
theorem cd_int {i : Int} : CallD (fun xs H Q => (∃ i, xs = [.int i] ∧ Q (.int i) H) ∨ ∃ k, xs = [.bl k] ∧ Q (.int (if k then 1 else 0)) H) [.int i] (.int i) := fun z H vs lv x Q k => by
  obtain ⟨v, rfl, x1⟩ := dats_1 x; replace x := x1
  cases dat_int x
  exact .inl ⟨i, rfl, k _ H (.refl _) (.int _)⟩
theorem cd_strI {i : Int} (h : i.natAbs.log2 < 1920) : CallD (fun xs H Q => ∃ i, xs = [.int i] ∧ i.natAbs.log2 < 1920 ∧ Q (.str (toString i)) H) [.int i] (.str (toString i)) := fun z H vs lv x Q k => by
  obtain ⟨v, rfl, x1⟩ := dats_1 x; replace x := x1
  cases dat_int x
  exact ⟨i, rfl, h, k _ H (.refl _) (.str _)⟩
theorem cd_divmod {C : Int → Int → Prop} {i j : Int} (h : C i j) : CallD (fun xs H Q => ∃ i j, xs = [.int i, .int j] ∧ C i j ∧ ∀ p, H p = none → Q (.ref p) (upd H p (.tup [.int (i / j), .int (i % j)]))) [.int i, .int j] (.tup [.int (i / j), .int (i % j)]) := fun z H vs lv x Q k => by
  obtain ⟨v, w, rfl, x, y⟩ := dats_2 x
  cases dat_int x; cases dat_int y
  refine ⟨i, j, rfl, h, fun p np => k _ _ (same_upd np) (.tup (hide_new lv np) (.cons (.int _) (.cons (.int _) .nil)))⟩
theorem Dats.upd {h : List Addr} {H : Hp} {T : Addr} {o : HO} (nT : H T = none) {v : List V} {d : List D} (x : Dats (Hide h H) v d) : Dats (Hide h (L2.upd H T o)) v d := by
  refine x.mono (.of fun b u e => ?_)
  obtain ⟨n, e⟩ := hide_some e
  rw [hide_out n, upd_ne (ne_of_none e nT)]
  exact e
theorem cd_list {K : PySem.W.Frag} {ds : List D} {dl : D} (hl : dl = .lst ds ∨ dl = .tup ds) : CallD (fun xs H Q => ∃ p ys, xs = [.ref p] ∧ (SqL K H p ys ∨ SqT K H p ys) ∧ ∀ l, H l = none → Q (.ref l) (upd H l (.lst ys))) [dl] (.lst ds) := fun z H vs lv x Q k => by
  obtain ⟨v, rfl, x1⟩ := dats_1 x; replace x := x1
  rcases hl with rfl | rfl
  · obtain ⟨p, vs, rfl, h, q⟩ := dat_lst x
    exact ⟨p, vs, rfl, .inl (SqL.of (hide_get h)), fun l nl => k _ _ (same_upd nl) (.lst (hide_new lv nl) (Dats.upd nl q))⟩
  · obtain ⟨p, vs, rfl, h, q⟩ := dat_tup x
    exact ⟨p, vs, rfl, .inr (SqT.of (hide_get h)), fun l nl => k _ _ (same_upd nl) (.lst (hide_new lv nl) (Dats.upd nl q))⟩
theorem cd_tuple {K : PySem.W.Frag} {ds : List D} {dl : D} (hl : dl = .lst ds ∨ dl = .tup ds) : CallD (fun xs H Q => ∃ p ys, xs = [.ref p] ∧ ((SqL K H p ys ∧ ∀ l, H l = none → Q (.ref l) (upd H l (.tup ys))) ∨ (SqT K H p ys ∧ Q (.ref p) H))) [dl] (.tup ds) := fun z H vs lv x Q k => by
  obtain ⟨v, rfl, x1⟩ := dats_1 x; replace x := x1
  rcases hl with rfl | rfl
  · obtain ⟨p, vs, rfl, h, q⟩ := dat_lst x
    exact ⟨p, vs, rfl, .inl ⟨SqL.of (hide_get h), fun l nl => k _ _ (same_upd nl) (.tup (hide_new lv nl) (Dats.upd nl q))⟩⟩
  · obtain ⟨p, vs, rfl, h, q⟩ := dat_tup x
    exact ⟨p, vs, rfl, .inr ⟨SqT.of (hide_get h), k _ H (.refl _) x⟩⟩
theorem DatK.len {H : Hp} : ∀ {kvs : List (Key × V)} {es : List (Key × D)}, DatK H kvs es → kvs.length = es.length
  | _, _, .nil => rfl
  | _, _, .cons _ r => congrArg (· + 1) (DatK.len r)
theorem DatK.keys {H : Hp} : ∀ {kvs : List (Key × V)} {es : List (Key × D)}, DatK H kvs es → kvs.map (·.1) = es.map (·.1)
  | _, _, .nil => rfl
  | _, _, .cons _ r => by rw [List.map_cons, List.map_cons, DatK.keys r]
def keyD : Key → D
  | .inl i => .int i
  | .inr x => .str x
theorem dat_key {H : Hp} (k : Key) : Dat H (kV k) (keyD k) := by
  cases k with
  | inl i => exact .int i
  | inr x => exact .str x
theorem dats_keys {H : Hp} : ∀ ks : List Key, Dats H (ks.map kV) (ks.map keyD)
  | [] => .nil
  | k :: ks => .cons (dat_key k) (dats_keys ks)
/-- list(d) of a dict -/
theorem cd_listD {es : List (Key × D)} : CallD (fun xs H Q => ∃ (a : Addr) (kvs : List (Key × V)), xs = [.ref a] ∧ Rd H a (.dK kvs) ∧ ∀ p, H p = none → Q (.ref p) (upd H p (.lst (kvs.map fun kv => kV kv.1)))) [.dic es] (.lst (es.map fun e => keyD e.1)) := fun z H vs lv x Q k => by
  obtain ⟨v, rfl, x1⟩ := dats_1 x; replace x := x1
  obtain ⟨p, kvs, rfl, h, q⟩ := dat_dic x
  refine ⟨p, kvs, rfl, h.imp hide_get fun ⟨o, e⟩ => ⟨o, hide_get e⟩, fun l nl => k _ _ (same_upd nl) (.lst (hide_new lv nl) ?_)⟩
  have e1 : (kvs.map fun kv => kV kv.1) = (kvs.map (·.1)).map kV := by rw [List.map_map]; rfl
  have e2 : (es.map fun e => keyD e.1) = (es.map (·.1)).map keyD := by rw [List.map_map]; rfl
  rw [e1, e2, q.keys]
  exact dats_keys _
theorem cd_all {K : PySem.W.Frag} {bs : List Bool} : CallD (rAll K) [.lst (bs.map .bl)] (.bl (bs.all id)) := fun z H vs lv x Q k => by
  obtain ⟨v, rfl, x1⟩ := dats_1 x; replace x := x1
  obtain ⟨p, vs, rfl, h, q⟩ := dat_lst x
  have e : vs = bs.map V.bl := dats_flat q (by rw [List.map_map, List.map_map]; rfl)
  subst e
  exact ⟨p, bs, rfl, SqL.of (hide_get h), k _ H (.refl _) (.bl _)⟩
theorem cd_any {K : PySem.W.Frag} {bs : List Bool} : CallD (rAny K) [.lst (bs.map .bl)] (.bl (bs.any id)) := fun z H vs lv x Q k => by
  obtain ⟨v, rfl, x1⟩ := dats_1 x; replace x := x1
  obtain ⟨p, vs, rfl, h, q⟩ := dat_lst x
  have e : vs = bs.map V.bl := dats_flat q (by rw [List.map_map, List.map_map]; rfl)
  subst e
  exact ⟨p, bs, rfl, SqL.of (hide_get h), k _ H (.refl _) (.bl _)⟩
/-- list + list -/
theorem opd_cat {xs ys : List D} (h : xs.length + ys.length ≤ sizeLine) : OpD rCat (.lst xs) (.lst ys) (.lst (xs ++ ys)) := fun z H v1 v2 lv x y Q k => by
  obtain ⟨p, vs, rfl, h1, q1⟩ := dat_lst x
  obtain ⟨q, ws, rfl, h2, q2⟩ := dat_lst y
  exact ⟨p, q, vs, ws, rfl, rfl, hide_get h1, hide_get h2, by rw [q1.len, q2.len]; exact h, fun l nl => k _ _ (same_upd nl) (.lst (hide_new lv nl) (Dats.upd nl (q1.app q2)))⟩

/-! ### displays -/
theorem ev_tup {ds : List D} (ha : EvA F t ρ μ (ds.map .dat) μ1) (h : ds.length ≤ sizeLine) : Ev F (tTup t) ρ μ (.dat (.tup ds)) μ1 := fun as σ H R Q k =>
  ha as σ H R _ fun vs as1 H1 R1 p1 a1 x1 => by
    have q := dats_slots x1
    exact ⟨by rw [q.len]; exact h, fun l nl => k _ as1 _ (R1.same (same_upd nl)) p1 (a1.trans (.same (same_upd nl))) ⟨_, rfl, .tup (hide_new R1.live nl) (Dats.upd nl q)⟩⟩
theorem ev_lst {ds : List D} (ha : EvA F t ρ μ (ds.map .dat) μ1) (h : ds.length ≤ sizeLine) : Ev F (tLst t) ρ μ (.dat (.lst ds)) μ1 := fun as σ H R Q k =>
  ha as σ H R _ fun vs as1 H1 R1 p1 a1 x1 => by
    have q := dats_slots x1
    exact ⟨by rw [q.len]; exact h, fun l nl => k _ as1 _ (R1.same (same_upd nl)) p1 (a1.trans (.same (same_upd nl))) ⟨_, rfl, .lst (hide_new R1.live nl) (Dats.upd nl q)⟩⟩
/-- a list display that stays the def's own -/
theorem ev_lstO {ds : List D} (ha : EvA F t ρ μ (ds.map .dat) μ1) (h : ds.length ≤ sizeLine) (n : Nat) (hn : n = μ1.length) : Ev F (tLst t) ρ μ (.cell n) (μ1 ++ [.lst ds]) := fun as σ H R Q k =>
  ha as σ H R _ fun vs as1 H1 R1 p1 a1 x1 => by
    have q := dats_slots x1
    refine ⟨by rw [q.len]; exact h, fun l nl => ?_⟩
    obtain ⟨R2, a2⟩ := R1.snoc (H' := upd H1 l (.lst vs)) (c := .lst ds) nl (same_upd nl) rfl fun h s => ⟨vs, upd_same, q.mono (.of s)⟩
    refine k _ _ _ R2 (p1.trans (List.prefix_append _ _)) (a1.trans a2) ⟨l, ?_, rfl⟩
    subst hn
    rw [pd_len R1.cells]
    simp

/-! ### tests, conditions -/
theorem evt_val {b : Bool} (h : Ev F te ρ μ (.dat (.bl b)) μ1) : EvT F (tB te) ρ μ b μ1 := fun as σ H R Q k =>
  h as σ H R _ fun v as1 H1 R1 p1 a1 x1 => ⟨b, dat_bl (dat_slot x1), k as1 H1 R1 p1 a1⟩
theorem evt_test {b : Bool} (h : Ev F te ρ μ (.dat (.bl b)) μ1) : EvT F (tTest te) ρ μ b μ1 := fun as σ H R Q k =>
  h as σ H R _ fun v as1 H1 R1 p1 a1 x1 => ⟨b, dat_bl (dat_slot x1), k as1 H1 R1 p1 a1⟩
theorem evt_not {b : Bool} (h : EvT F tt ρ μ b μ1) : EvT F (tNot tt) ρ μ (!b) μ1 := fun as σ H R Q k =>
  h as σ H R _ fun as1 H1 R1 p1 a1 => k as1 H1 R1 p1 a1
theorem evt_and {b c : Bool} (h : EvT F tt ρ μ b μ1) (g : b = true → EvT F tu ρ μ1 c μ2) : EvT F (tAnd tt tu) ρ μ (b && c) (if b = true then μ2 else μ1) := fun as σ H R Q k =>
  h as σ H R _ fun as1 H1 R1 p1 a1 => by
    cases b with
    | true => exact g rfl as1 σ H1 R1 _ fun as2 H2 R2 p2 a2 => k as2 H2 R2 (p1.trans p2) (a1.trans a2)
    | false => exact k as1 H1 R1 p1 a1
theorem evt_or {b c : Bool} (h : EvT F tt ρ μ b μ1) (g : b = false → EvT F tu ρ μ1 c μ2) : EvT F (tOr tt tu) ρ μ (b || c) (if b = true then μ1 else μ2) := fun as σ H R Q k =>
  h as σ H R _ fun as1 H1 R1 p1 a1 => by
    cases b with
    | true => exact k as1 H1 R1 p1 a1
    | false => exact g rfl as1 σ H1 R1 _ fun as2 H2 R2 p2 a2 => k as2 H2 R2 (p1.trans p2) (a1.trans a2)
theorem ev_ifE {b : Bool} (h : EvT F tt ρ μ b μ1) (g1 : b = true → Ev F ta ρ μ1 r μ2) (g2 : b = false → Ev F tb ρ μ1 r μ2) : Ev F (tIf tt ta tb) ρ μ r μ2 := fun as σ H R Q k =>
  h as σ H R _ fun as1 H1 R1 p1 a1 => by
    cases b with
    | true => exact g1 rfl as1 σ H1 R1 _ fun v as2 H2 R2 p2 a2 x => k v as2 H2 R2 (p1.trans p2) (a1.trans a2) x
    | false => exact g2 rfl as1 σ H1 R1 _ fun v as2 H2 R2 p2 a2 x => k v as2 H2 R2 (p1.trans p2) (a1.trans a2) x
theorem ev_and {b c : Bool} (h : Ev F ta ρ μ (.dat (.bl b)) μ1) (g : b = true → Ev F tb ρ μ1 (.dat (.bl c)) μ1) : Ev F (tAndV ta tb) ρ μ (.dat (.bl (b && c))) μ1 := fun as σ H R Q k =>
  h as σ H R _ fun v as1 H1 R1 p1 a1 x1 => by
    refine ⟨b, dat_bl (dat_slot x1), ?_⟩
    cases b with
    | true => exact g rfl as1 σ H1 R1 _ fun v as2 H2 R2 p2 a2 x => k v as2 H2 R2 (p1.trans p2) (a1.trans a2) x
    | false => exact k _ as1 H1 R1 p1 a1 ⟨_, rfl, .bl _⟩
theorem ev_or {b c : Bool} (h : Ev F ta ρ μ (.dat (.bl b)) μ1) (g : b = false → Ev F tb ρ μ1 (.dat (.bl c)) μ1) : Ev F (tOrV ta tb) ρ μ (.dat (.bl (b || c))) μ1 := fun as σ H R Q k =>
  h as σ H R _ fun v as1 H1 R1 p1 a1 x1 => by
    refine ⟨b, dat_bl (dat_slot x1), ?_⟩
    cases b with
    | true => exact k _ as1 H1 R1 p1 a1 ⟨_, rfl, .bl _⟩
    | false => exact g rfl as1 σ H1 R1 _ fun v as2 H2 R2 p2 a2 x => k v as2 H2 R2 (p1.trans p2) (a1.trans a2) x
theorem ev_not {b : Bool} (h : Ev F ta ρ μ (.dat (.bl b)) μ1) : Ev F (tNotV ta) ρ μ (.dat (.bl (!b))) μ1 := fun as σ H R Q k =>
  h as σ H R _ fun v as1 H1 R1 p1 a1 x1 => ⟨b, dat_bl (dat_slot x1), k _ as1 H1 R1 p1 a1 ⟨_, rfl, .bl _⟩⟩
/-- truth of a value by its data -/
def truD : D → Option Bool
  | .non => some false
  | .bl b => some b
  | .lst ds => some (!ds.isEmpty)
  | .tup ds => some (!ds.isEmpty)
  | _ => none
theorem evt_yes : EvT F tYes ρ μ true μ := fun as σ H R Q k => k as H R (List.prefix_refl _) (.refl _ _)

/-! ### statements -/
theorem OutK.back {as as1 h h1 : List Addr} {H H1 : Hp} {E : Ends} (p : as <+: as1) (a : Adv h h1 H H1) (k : OutK F as h H E o) : OutK F as1 h1 H1 E o := by
  cases o with
  | nx ρ μ => exact fun as' σ' H' f => k as' σ' H' ⟨f.rel, p.trans f.pre, a.trans f.adv⟩
  | bk ρ μ => exact fun as' σ' H' f => k as' σ' H' ⟨f.rel, p.trans f.pre, a.trans f.adv⟩
  | ct ρ μ => exact fun as' σ' H' f => k as' σ' H' ⟨f.rel, p.trans f.pre, a.trans f.adv⟩
  | rt r μ => exact fun ρ as' σ' H' v f x => k ρ as' σ' H' v ⟨f.rel, p.trans f.pre, a.trans f.adv⟩ x
theorem ws_seq (h : Ws F ts ρ μ (.nx ρ1 μ1)) (g : Ws F us ρ1 μ1 o) : Ws F (tSeq ts us) ρ μ o := fun as σ H R E k =>
  h as σ H R _ fun as1 σ1 H1 f => g as1 σ1 H1 f.rel _ (k.back f.pre f.adv)
theorem ws_seq_rt (h : Ws F ts ρ μ (.rt r μ1)) : Ws F (tSeq ts us) ρ μ (.rt r μ1) := fun as σ H R E k => h as σ H R _ k
theorem ws_seq_ct (h : Ws F ts ρ μ (.ct ρ1 μ1)) : Ws F (tSeq ts us) ρ μ (.ct ρ1 μ1) := fun as σ H R E k => h as σ H R _ k
theorem ws_next : Ws F tNext ρ μ (.nx ρ μ) := fun as σ H R E k => k as σ H ⟨R, List.prefix_refl _, .refl _ _⟩
theorem ws_set (i : Nat) (h : Ev F te ρ μ r μ1) : Ws F (tAsg te (gName i)) ρ μ (.nx (ρ.set i r) μ1) := fun as σ H R E k =>
  h as σ H R _ fun v as1 H1 R1 p1 a1 x1 => k as1 _ H1 ⟨R1.put i x1, p1, a1⟩
theorem ws_ret (h : Ev F te ρ μ r μ1) : Ws F (tRet te) ρ μ (.rt r μ1) := fun as σ H R E k =>
  h as σ H R _ fun v as1 H1 R1 p1 a1 x1 => k ρ as1 σ H1 v ⟨R1, p1, a1⟩ x1
theorem ws_drop (h : Ev F te ρ μ r μ1) : Ws F (tDrop te) ρ μ (.nx ρ μ1) := fun as σ H R E k =>
  h as σ H R _ fun v as1 H1 R1 p1 a1 x1 => k as1 σ H1 ⟨R1, p1, a1⟩
theorem ws_if {b : Bool} (h : EvT F tt ρ μ b μ1) (g1 : b = true → Ws F ts ρ μ1 o) (g2 : b = false → Ws F us ρ μ1 o) : Ws F (tIfS tt ts us) ρ μ o := fun as σ H R E k =>
  h as σ H R _ fun as1 H1 R1 p1 a1 => by
    cases b with
    | true => exact g1 rfl as1 σ H1 R1 _ (k.back p1 a1)
    | false => exact g2 rfl as1 σ H1 R1 _ (k.back p1 a1)
/-- a, b = e: a tuple unpacked into names -/
theorem ws_unp2 {K : PySem.W.Frag} (i j : Nat) {d e : D} (h : Ev F te ρ μ (.dat (.tup [d, e])) μ1) : Ws F (tAsg te (gTup K 2 (gCons (gName i) (gCons (gName j) gNil)))) ρ μ (.nx ((ρ.set i (.dat d)).set j (.dat e)) μ1) := fun as σ H R E k =>
  h as σ H R _ fun v as1 H1 R1 p1 a1 x1 => by
    obtain ⟨p, vs, rfl, q, r⟩ := dat_tup (dat_slot x1)
    obtain ⟨v, w, rfl, x, y⟩ := dats_2 r
    refine ⟨p, [v, w], rfl, SqT.of (hide_get q), rfl, v, [w], rfl, w, [], rfl, rfl, k as1 _ H1 ⟨(R1.put (s := .dat d) i ⟨_, rfl, x⟩).put (s := .dat e) j ⟨_, rfl, y⟩, p1, a1⟩⟩
theorem ws_par2 (i j : Nat) {r1 r2 : Slot} (h : EvA F t ρ μ [r1, r2] μ1) : Ws F (tPar i j t) ρ μ (.nx ((ρ.set i r1).set j r2) μ1) := fun as σ H R E k =>
  h as σ H R _ fun vs as1 H1 R1 p1 a1 x1 => by
    cases x1 with
    | cons x t =>
      cases t with
      | cons y t =>
        cases t
        exact ⟨_, _, rfl, k as1 _ H1 ⟨(R1.put i x).put j y, p1, a1⟩⟩
end
end Dl
end
section
set_option Elab.async false
set_option maxRecDepth 100000
set_option linter.all false
namespace Dl
open PySem L2
section
variable {F : Fm} {ρ ρ1 ρ2 : List Slot} {μ μ1 μ2 μ3 : List Cell} {r r1 r2 : Slot} {rs : List Slot} {ta tb tc te tl : TE} {t : TA} {o o1 o2 : Out} {tt tu : TT} {ts us : TS}
/-! ### from a body to its promise -/
def slots0 (N : Nat) (ds : List D) : List Slot := ds.map .dat ++ List.replicate (N - ds.length) .un
theorem pd_rep {h as : List Addr} {H : Hp} : ∀ n : Nat, Paired (SlotOk h as H) (List.replicate n .un) (List.replicate n none)
  | 0 => .nil
  | n + 1 => .cons trivial (pd_rep n)
theorem pd_app {α β : Type} {F : α → β → Prop} : ∀ {l l' : List α} {m m' : List β}, Paired F l m → Paired F l' m' → Paired F (l ++ l') (m ++ m')
  | _, _, _, _, .nil, s => s
  | _, _, _, _, .cons h r, s => .cons h (pd_app r s)
theorem slots_dats {h as : List Addr} {H : Hp} : ∀ {vs : List V} {ds : List D}, Dats (Hide h H) vs ds → Paired (SlotOk h as H) (ds.map .dat) (vs.map some)
  | _, _, .nil => .nil
  | _, _, .cons x r => .cons ⟨_, rfl, x⟩ (slots_dats r)
theorem hide_less {h z : List Addr} {H : Hp} {v : V} {d : D} (x : Dat (Hide h H) v d) (s : ∀ b, b ∈ z → b ∈ h) : Dat (Hide z H) v d :=
  x.mono (.of fun b o e => by
    obtain ⟨n, e⟩ := hide_some e
    rw [hide_out fun m => n (s b m)]
    exact e)
/-- the end of a def that only reads -/
inductive EndF (d : D) : Out → Prop
  | rt (μ : List Cell) : EndF d (.rt (.dat d) μ)
  | nx (ρ : List Slot) (μ : List Cell) (h : d = .non) : EndF d (.nx ρ μ)
theorem run_F {N : List Str} {R : List D → D → Prop} {t : TS} {vs : List V} {H : Hp} {Q : VK} {E : XK} (h : spF R vs H Q E) (hb : ∀ ds d, R ds d → ∀ F : Fm, F.ps = [] → ∃ o, EndF d o ∧ Ws F t (slots0 N.length ds) [] o) :
    t { nx := fun _ H' => Q .non H', rt := Q } (L2.start N vs) H := by
  obtain ⟨z, ds, d, lv, x, hR, k⟩ := h
  let F : Fm := ⟨z, H, []⟩
  obtain ⟨o, he, hw⟩ := hb ds d hR F rfl
  have R0 : Rel F (slots0 N.length ds) [] [] (L2.start N vs) H := by
    refine { cells := .nil, slots := ?_, nd := List.nodup_nil, zl := lv, dj := fun a m => (List.not_mem_nil m).elim, base := fun b o _ e => e, pre := rfl, fresh := fun a m => (List.not_mem_nil m).elim, there := fun a m => (List.not_mem_nil m).elim }
    unfold slots0 L2.start
    rw [x.len]
    exact pd_app (slots_dats x) (pd_rep _)
  refine hw [] _ H R0 _ ?_
  cases he with
  | rt μ =>
    intro ρ as' σ' H' v f sv
    exact k v H' (fun b o e => f.adv.keep b o (by simp [hid]) e) (hide_less (dat_slot sv) fun b m => List.mem_append_right _ m)
  | nx ρ μ h =>
    intro as' σ' H' f
    subst h
    exact k .non H' (fun b o e => f.adv.keep b o (by simp [hid]) e) .non
/-- a def that takes the pot first -/
def slotsP (N : Nat) (ds : List D) : List Slot := .cell 0 :: (ds.map .dat ++ List.replicate (N - (ds.length + 1)) .un)
def potC (p : Pot) : Cell := .lst [.int p.a, .int p.b]
inductive EndP (d : D) (p : Pot) : Out → Prop
  | rt (μ : List Cell) : EndP d p (.rt (.dat d) (potC p :: μ))
  | nx (ρ : List Slot) (μ : List Cell) (h : d = .non) : EndP d p (.nx ρ (potC p :: μ))
theorem dats_ints2 {H : Hp} {vs : List V} {a b : Int} (x : Dats H vs [.int a, .int b]) : vs = [.int a, .int b] := by
  obtain ⟨v, w, rfl, x, y⟩ := dats_2 x
  rw [dat_int x, dat_int y]
theorem run_P {N : List Str} {R : Pot → List D → D → Pot → Prop} {t : TS} {vs : List V} {H : Hp} {Q : VK} {E : XK} (h : spP R vs H Q E)
    (hb : ∀ p ds d p', R p ds d p' → ∀ F : Fm, F.ps.length = 1 → ∃ o, EndP d p' o ∧ Ws F t (slotsP N.length ds) [potC p] o) :
    t { nx := fun _ H' => Q .non H', rt := Q } (L2.start N vs) H := by
  obtain ⟨p, ws, z, ds, P, d, P', rfl, pz, lv, hp, x, hR, k⟩ := h
  let F : Fm := ⟨z, H, [p]⟩
  obtain ⟨o, he, hw⟩ := hb P ds d P' hR F rfl
  have R0 : Rel F (slotsP N.length ds) [potC P] [p] (L2.start N (.ref p :: ws)) H := by
    refine { cells := .cons ⟨_, hp, .cons (.int _) (.cons (.int _) .nil)⟩ .nil, slots := ?_, nd := (by simp), zl := lv, dj := fun q m => (by rw [List.mem_singleton] at m; subst m; exact pz), base := fun b o _ e => e, pre := rfl, fresh := fun q m => .inl m, there := fun q m => (by rw [List.mem_singleton] at m; subst m; rw [hp]; simp) }
    unfold slotsP L2.start
    refine .cons ⟨p, rfl, rfl⟩ ?_
    show Paired _ _ (ws.map some ++ List.replicate (N.length - (ws.length + 1)) none)
    rw [x.len]
    exact pd_app (slots_dats x) (pd_rep _)
  refine hw [p] _ H R0 _ ?_
  have fin : ∀ {ρ' : List Slot} {μ : List Cell} {as' : List Addr} {σ' : St} {H' : Hp}, Far F ρ' (potC P' :: μ) [p] (hid [potC P] [p]) H as' σ' H' →
      H' p = some (.lst [.int P'.a, .int P'.b]) ∧ (∀ q o, q ≠ p → H q = some o → H' q = some o) ∧ ∀ c, c ∈ p :: z → c ∈ hid (potC P' :: μ) as' ++ z := fun {ρ' μ as' σ' H'} f => by
    obtain ⟨l, rfl⟩ := f.pre
    refine ⟨?_, fun q o n e => f.adv.keep q o (by simp [hid, potC, Cell.live, n]) e, ?_⟩
    · have c := f.rel.cells
      cases c with
      | cons c _ =>
        obtain ⟨vs, e, x⟩ := c
        rw [dats_ints2 x] at e
        exact e
    · intro c m
      rcases List.mem_cons.mp m with rfl | m
      · exact List.mem_append_left _ (by show c ∈ (if _ then _ else _); simp [potC, Cell.live])
      · exact List.mem_append_right _ m
  cases he with
  | rt μ =>
    intro ρ as' σ' H' v f sv
    obtain ⟨h1, h2, h3⟩ := fin f
    exact k v H' h1 h2 (hide_less (dat_slot sv) h3)
  | nx ρ μ h =>
    intro as' σ' H' f
    obtain ⟨h1, h2, h3⟩ := fin f
    subst h
    exact k .non H' h1 h2 .non
/-- f(pot, ..) -/
theorem ev_callP {RR : Pot → List D → D → Pot → Prop} {k : Nat} {ds : List D} {p p' : Pot} {d : D} {E : XK} (ha : EvA F t ρ μ (.cell k :: ds.map .dat) μ1) (hk : μ1[k]? = some (potC p)) (hr : RR p ds d p') :
    Ev F (tCall (spP RR) [] E t) ρ μ (.dat d) (μ1.set k (potC p')) := fun as σ H R Q kk =>
  ha as σ H R _ fun vs as1 H1 R1 p1 a1 x1 => by
    cases x1 with
    | @cons _ v _ ws c x2 =>
      obtain ⟨q, hq, e⟩ := c
      cases e
      have xs := dats_slots x2
      obtain ⟨q', hq', cq⟩ := pd_get R1.cells hk
      rw [hq] at hq'
      cases hq'
      obtain ⟨cs, hc, xc⟩ := cq
      rw [dats_ints2 xc] at hc
      obtain ⟨Rk, ak, nq⟩ := R1.kill hk rfl hq
      have eqh : ∀ b, b ∈ hid μ1 as1 ++ F.z ↔ b ∈ q :: (hid (μ1.set k .dead) as1 ++ F.z) := fun b => by
        rw [List.mem_append, hid_kill k hk rfl hq R1.nd b, List.mem_cons, List.mem_append]
        constructor
        · rintro ((h | h) | h)
          · exact .inl h
          · exact .inr (.inl h)
          · exact .inr (.inr h)
        · rintro (h | h | h)
          · exact .inl (.inl h)
          · exact .inl (.inr h)
          · exact .inr h
      refine ⟨q, ws, _, ds, p, d, p', by rw [List.append_nil], nq, fun a m => R1.live a ((eqh a).mpr (List.mem_cons_of_mem _ m)), hc, by rw [← hide_eq eqh]; exact xs, hr, fun v H' h1 h2 dv => ?_⟩
      obtain ⟨R2, a2⟩ := R1.poke (c' := potC p') hk rfl hq h2 rfl ⟨_, h1, .cons (.int _) (.cons (.int _) .nil)⟩
      have eh : hid (μ1.set k (potC p')) as1 = hid μ1 as1 := hid_set k as1 hk rfl
      refine kk v as1 H' R2 p1 (a1.trans a2) ⟨v, rfl, ?_⟩
      rw [eh, hide_eq eqh]
      exact dv
end
end Dl
end
section
set_option Elab.async false
set_option maxRecDepth 100000
set_option linter.all false
namespace Dl
open PySem L2
section
variable {F : Fm} {ρ ρ1 ρ2 : List Slot} {μ μ1 μ2 μ3 : List Cell} {r r1 r2 : Slot} {rs : List Slot} {ta tb tc te tl : TE} {t : TA} {o o1 o2 : Out} {tt tu : TT} {ts us : TS} {g : TG} {gs : TGs}
theorem dat_of_flat {H : Hp} {d : D} {w : V} (e : flat d = some w) : Dat H w d := by
  cases d <;> simp [flat] at e <;> subst e <;> constructor
/-- a cell of a list, looked at -/
theorem Rel.cell {as : List Addr} {σ : St} {H : Hp} (R : Rel F ρ μ as σ H) {k : Nat} {c : Cell} (hk : μ[k]? = some c) : ∃ p, as[k]? = some p ∧ CellOk (hid μ as ++ F.z) as H c p := pd_get R.cells hk
theorem Rel.cellD {as : List Addr} {σ : St} {H : Hp} (R : Rel F ρ μ as σ H) {k : Nat} {ds : List D} {p : Addr} (hk : μ[k]? = some (.lst ds)) (hp : as[k]? = some p) :
    ∃ z, (∀ a, a ∈ z → H a ≠ none) ∧ (∀ b, b ∈ hid μ as ++ F.z ↔ b = p ∨ b ∈ z) ∧ Dat (Hide z H) (.ref p) (.lst ds) ∧ Same (Hide (hid μ as ++ F.z) H) (Hide z H) := by
  obtain ⟨q, hq, vs, e, x⟩ := R.cell hk
  rw [hp] at hq
  cases hq
  obtain ⟨Rk, ak, np⟩ := R.kill hk rfl hp
  refine ⟨hid (μ.set k .dead) as ++ F.z, Rk.live, fun b => ?_, .lst (by rw [hide_out np]; exact e) (ak.dats x), ak.ge⟩
  rw [List.mem_append, hid_kill k hk rfl hp R.nd b, List.mem_append]
  constructor
  · rintro ((h | h) | h)
    · exact .inl h
    · exact .inr (.inl h)
    · exact .inr (.inr h)
  · rintro (h | h | h)
    · exact .inl (.inl h)
    · exact .inl (.inr h)
    · exact .inr h
theorem dat_back {z h : List Addr} {H : Hp} {v : V} {d : D} {w : V} (e : flat d = some w) (x : Dat (Hide z H) v d) : Dat (Hide h H) v d := by
  cases dat_flat x e
  exact dat_of_flat e
/-- an operator upon a list cell and data, with a flat answer -/
theorem ev_opC1 {f : R2} {k : Nat} {ds : List D} {d2 d : D} {w : V} (hf : OpD f (.lst ds) d2 d) (hw : flat d = some w) (ha : Ev F ta ρ μ (.cell k) μ1) (hb : Ev F tb ρ μ1 (.dat d2) μ2) (hk : μ2[k]? = some (.lst ds)) : Ev F (tOp f ta tb) ρ μ (.dat d) μ2 := fun as σ H R Q kk =>
  ha as σ H R _ fun v1 as1 H1 R1 p1 a1 x1 => hb as1 σ H1 R1 _ fun v2 as2 H2 R2 p2 a2 x2 => by
    obtain ⟨p, hp, e⟩ := SlotOk.ext p2 x1
    cases e
    obtain ⟨z, lv, _, xl, sm⟩ := R2.cellD hk hp
    exact hf z H2 _ v2 lv xl ((dat_slot x2).mono (.of sm)) Q fun v H3 s y => kk v as2 H3 (R2.same s) (p1.trans p2) ((a1.trans a2).trans (.same s)) ⟨v, rfl, dat_back hw y⟩
/-- data and a list cell -/
theorem ev_opC2 {f : R2} {k : Nat} {ds : List D} {d1 d : D} {w : V} (hf : OpD f d1 (.lst ds) d) (hw : flat d = some w) (ha : Ev F ta ρ μ (.dat d1) μ1) (hb : Ev F tb ρ μ1 (.cell k) μ2) (hk : μ2[k]? = some (.lst ds)) : Ev F (tOp f ta tb) ρ μ (.dat d) μ2 := fun as σ H R Q kk =>
  ha as σ H R _ fun v1 as1 H1 R1 p1 a1 x1 => hb as1 σ H1 R1 _ fun v2 as2 H2 R2 p2 a2 x2 => by
    obtain ⟨p, hp, e⟩ := x2
    cases e
    obtain ⟨z, lv, _, xl, sm⟩ := R2.cellD hk hp
    exact hf z H2 _ _ lv ((a2.dat (dat_slot x1)).mono (.of sm)) xl Q fun v H3 s y => kk v as2 H3 (R2.same s) (p1.trans p2) ((a1.trans a2).trans (.same s)) ⟨v, rfl, dat_back hw y⟩
/-- a built-in upon a list cell, with a flat answer -/
theorem ev_cbC {f : List V → Hp → VK → Prop} {k : Nat} {ds : List D} {d : D} {w : V} (hf : CallD f [.lst ds] d) (hw : flat d = some w) (ha : EvA F t ρ μ [.cell k] μ1) (hk : μ1[k]? = some (.lst ds)) : Ev F (tCB f t) ρ μ (.dat d) μ1 := fun as σ H R Q kk =>
  ha as σ H R _ fun vs as1 H1 R1 p1 a1 x1 => by
    cases x1 with
    | cons x tl =>
      cases tl
      obtain ⟨p, hp, e⟩ := x
      cases e
      obtain ⟨z, lv, _, xl, sm⟩ := R1.cellD hk hp
      exact hf z H1 _ lv (.cons xl .nil) Q fun v H3 s y => kk v as1 H3 (R1.same s) p1 (a1.trans (.same s)) ⟨v, rfl, dat_back hw y⟩
/-- an item of a list cell -/
theorem ev_ixC {K : PySem.W.Frag} {k : Nat} {ds : List D} {i : Int} {d : D} (ha : Ev F ta ρ μ (.cell k) μ1) (hb : Ev F tb ρ μ1 (.dat (.int i)) μ2) (hk : μ2[k]? = some (.lst ds)) (e : atI ds i = some d) : Ev F (tOp (rIxL K) ta tb) ρ μ (.dat d) μ2 := fun as σ H R Q kk =>
  ha as σ H R _ fun v1 as1 H1 R1 p1 a1 x1 => hb as1 σ H1 R1 _ fun v2 as2 H2 R2 p2 a2 x2 => by
    obtain ⟨p, hp, e'⟩ := SlotOk.ext p2 x1
    cases e'
    cases dat_int (dat_slot x2)
    obtain ⟨q, hq, vs, el, xl⟩ := R2.cell hk
    rw [hp] at hq
    cases hq
    obtain ⟨v, hv, dv⟩ := xl.atI e
    exact ⟨p, vs, i, v, rfl, rfl, SqL.of el, hv, kk v as2 H2 R2 (p1.trans p2) (a1.trans a2) ⟨v, rfl, dv⟩⟩
/-- a cell is read as a value: it is data from now on -/
theorem ev_free {k : Nat} {ds : List D} (ha : Ev F ta ρ μ (.cell k) μ1) (hk : μ1[k]? = some (.lst ds)) : Ev F ta ρ μ (.dat (.lst ds)) (μ1.set k .dead) := fun as σ H R Q kk =>
  ha as σ H R _ fun v1 as1 H1 R1 p1 a1 x1 => by
    obtain ⟨p, hp, e⟩ := x1
    cases e
    obtain ⟨q, hq, vs, el, xl⟩ := R1.cell hk
    rw [hp] at hq
    cases hq
    obtain ⟨Rk, ak, np⟩ := R1.kill hk rfl hp
    exact kk _ as1 H1 Rk p1 (a1.trans ak) ⟨_, rfl, .lst (by rw [hide_out np]; exact el) (ak.dats xl)⟩
theorem ev_freeK {k : Nat} {es : List (Key × D)} (ha : Ev F ta ρ μ (.cell k) μ1) (hk : μ1[k]? = some (.dic es)) : Ev F ta ρ μ (.dat (.dic es)) (μ1.set k .dead) := fun as σ H R Q kk =>
  ha as σ H R _ fun v1 as1 H1 R1 p1 a1 x1 => by
    obtain ⟨p, hp, e⟩ := x1
    cases e
    obtain ⟨q, hq, vs, el, xl⟩ := R1.cell hk
    rw [hp] at hq
    cases hq
    obtain ⟨Rk, ak, np⟩ := R1.kill hk rfl hp
    exact kk _ as1 H1 Rk p1 (a1.trans ak) ⟨_, rfl, .dic (.inl (by rw [hide_out np]; exact el)) (xl.mono (.of ak.ge))⟩
/-! ### methods that change a list cell -/
/-- what a method does to a list: the arguments' data, the answer, the list behind -/
def MutD (f : V → List V → Hp → VK → Prop) (ds : List D) (es : List D) (d : D) (ds' : List D) : Prop := ∀ (h : List Addr) (H : Hp) (p : Addr) (vs ws : List V), H p = some (.lst vs) → Dats (Hide h H) vs ds → Dats (Hide h H) ws es → ∀ Q : VK,
  (∀ v vs', Dat (Hide h H) v d → Dats (Hide h H) vs' ds' → Q v (upd H p (.lst vs'))) → f (.ref p) ws H Q
theorem ev_mut {K : PySem.W.Frag} {f : V → List V → Hp → VK → Prop} {k : Nat} {ds es : List D} {d : D} {ds' : List D} (hf : MutD f ds es d ds') (ha : Ev F ta ρ μ (.cell k) μ1) (hb : EvA F t ρ μ1 (es.map .dat) μ2) (hk0 : ∃ ds0, μ1[k]? = some (.lst ds0)) (hk : μ2[k]? = some (.lst ds)) :
    Ev F (tBM K "list" f ta t) ρ μ (.dat d) (μ2.set k (.lst ds')) := fun as σ H R Q kk =>
  ha as σ H R _ fun v1 as1 H1 R1 p1 a1 x1 => by
    obtain ⟨p, hp, e⟩ := x1
    cases e
    obtain ⟨ds0, hk0⟩ := hk0
    obtain ⟨q0, hq0, vs0, el0, _⟩ := R1.cell hk0
    rw [hp] at hq0
    cases hq0
    refine ⟨.inl ⟨rfl, vs0, SqL.of el0⟩, hb as1 σ H1 R1 _ fun ws as2 H2 R2 p2 a2 x2 => ?_⟩
    have hp2 : as2[k]? = some p := by
      obtain ⟨l, rfl⟩ := p2
      rw [List.getElem?_append_left (List.getElem?_eq_some_iff.mp hp).1]; exact hp
    obtain ⟨q, hq, vs, el, xl⟩ := R2.cell hk
    rw [hp2] at hq
    cases hq
    refine hf _ H2 p vs ws el xl (dats_slots x2) Q fun v vs' dv dvs => ?_
    have keep : ∀ b u, b ≠ p → H2 b = some u → (upd H2 p (.lst vs')) b = some u := fun b u n e => by rw [upd_ne n]; exact e
    have eh : hid (μ2.set k (.lst ds')) as2 = hid μ2 as2 := hid_set k as2 hk rfl
    have hin : p ∈ hid μ2 as2 := (hid_kill k hk rfl hp2 R2.nd p).mpr (.inl rfl)
    have g : Same (Hide (hid μ2 as2 ++ F.z) H2) (Hide (hid μ2 as2 ++ F.z) (upd H2 p (.lst vs'))) := fun b u e => by
      obtain ⟨n, e⟩ := hide_some e
      rw [hide_out n]
      exact keep b u (fun q => n (List.mem_append_left _ (q ▸ hin))) e
    obtain ⟨R3, a3⟩ := R2.poke (c' := .lst ds') (H' := upd H2 p (.lst vs')) hk rfl hp2 keep rfl ⟨vs', upd_same, dvs.mono (.of g)⟩
    refine kk v as2 _ R3 (p1.trans p2) ((a1.trans a2).trans a3) ⟨v, rfl, ?_⟩
    rw [eh]
    exact dv.mono (.of g)
theorem md_append {ds : List D} {d : D} (h : ds.length < sizeLine) : MutD rAppend ds [d] .non (ds ++ [d]) := fun z H p vs ws e x y Q k => by
  obtain ⟨v, rfl, dv⟩ := dats_1 y
  exact ⟨p, vs, v, rfl, rfl, e, by rw [x.len]; exact h, k .non _ .non (x.snoc dv)⟩
theorem Dats.erase {H : Hp} : ∀ {vs : List V} {ds : List D} (i : Nat), Dats H vs ds → Dats H (vs.eraseIdx i) (ds.eraseIdx i)
  | _, _, _, .nil => .nil
  | _, _, 0, .cons _ r => r
  | _, _, i + 1, .cons x r => .cons x (Dats.erase i r)
theorem md_popAt {ds : List D} {i : Int} {k : Nat} {d : D} (h1 : 0 ≤ i) (h2 : i.toNat = k) (h3 : i < 2 ^ 63) (hd : ds[k]? = some d) : MutD rPopAt ds [.int i] d (ds.eraseIdx k) := fun z H p vs ws e x y Q q => by
  obtain ⟨v, rfl, dv⟩ := dats_1 y
  cases dat_int dv
  obtain ⟨v, hv, dv⟩ := x.at_ hd
  have hlt : k < vs.length := (List.getElem?_eq_some_iff.mp hv).1
  refine ⟨p, vs, i, k, v, rfl, rfl, e, by omega, h3, ?_, hv, q v _ dv (x.erase k)⟩
  obtain ⟨n, rfl⟩ : ∃ n : Nat, i = (n : Int) := ⟨i.toNat, by omega⟩
  unfold seqIndex?
  simp at h2
  subst h2
  have hn : ¬ ((n : Int) < 0) := by omega
  simp [hlt, hn]
theorem Dats.drop_last {H : Hp} : ∀ {vs : List V} {ds : List D}, Dats H vs ds → Dats H vs.dropLast ds.dropLast
  | _, _, .nil => .nil
  | [_], [_], .cons _ .nil => .nil
  | _ :: _ :: _, _ :: _ :: _, .cons x (.cons y r) => .cons x (Dats.drop_last (.cons y r))
theorem md_pop {ds : List D} {d : D} (hd : ds[ds.length - 1]? = some d) : MutD rPop ds [] d ds.dropLast := fun z H p vs ws e x y Q q => by
  cases y
  obtain ⟨v, hv, dv⟩ := x.at_ hd
  rw [← x.len] at hv
  exact ⟨p, vs, v, rfl, rfl, e, hv, q v _ dv x.drop_last⟩
/-! ### targets -/
def Wg (F : Fm) (g : TG) (ρ : List Slot) (μ : List Cell) (r : Slot) (ρ' : List Slot) (μ' : List Cell) : Prop :=
  ∀ (as : List Addr) (σ : St) (H : Hp) (v : V), Rel F ρ μ as σ H → SlotOk (hid μ as ++ F.z) as H r (some v) → ∀ Q : St → Hp → Prop,
    (∀ as' σ' H', Far F ρ' μ' as (hid μ as) H as' σ' H' → Q σ' H') → g v σ H Q
theorem ws_asg {ρ' : List Slot} {μ' : List Cell} (h : Ev F te ρ μ r μ1) (hg : Wg F g ρ μ1 r ρ' μ') : Ws F (tAsg te g) ρ μ (.nx ρ' μ') := fun as σ H R E k =>
  h as σ H R _ fun v as1 H1 R1 p1 a1 x1 => hg as1 σ H1 v R1 x1 _ fun as2 σ2 H2 f => k as2 σ2 H2 ⟨f.rel, p1.trans f.pre, a1.trans f.adv⟩
theorem wg_name (i : Nat) : Wg F (gName i) ρ μ r (ρ.set i r) μ := fun as σ H v R x Q k => k as _ H ⟨R.put i x, List.prefix_refl _, .refl _ _⟩
theorem Dats.set {H : Hp} {v : V} {d : D} (x : Dat H v d) : ∀ {vs : List V} {ds : List D} (i : Nat), Dats H vs ds → Dats H (vs.set i v) (ds.set i d)
  | _, _, _, .nil => .nil
  | _, _, 0, .cons _ r => .cons x r
  | _, _, i + 1, .cons y r => .cons y (Dats.set x i r)
/-- xs[i] = e, xs a list cell -/
theorem wg_sub {k j : Nat} {ds : List D} {i : Int} {d : D} (ha : Ev F ta ρ μ (.cell k) μ) (hb : Ev F tb ρ μ (.dat (.int i)) μ) (hk : μ[k]? = some (.lst ds)) (hj : ixN ds.length i = some j) :
    Wg F (gSub ta tb rSetL) ρ μ (.dat d) ρ (μ.set k (.lst (ds.set j d))) := fun as σ H v R x Q kk =>
  ha as σ H R _ fun v1 as1 H1 R1 p1 a1 x1 => hb as1 σ H1 R1 _ fun v2 as2 H2 R2 p2 a2 x2 => by
    obtain ⟨p, hp, e'⟩ := SlotOk.ext p2 x1
    cases e'
    cases dat_int (dat_slot x2)
    obtain ⟨q, hq, vs, el, xl⟩ := R2.cell hk
    rw [hp] at hq
    cases hq
    refine ⟨p, vs, i, j, rfl, rfl, el, by rw [xl.len]; exact hj, ?_⟩
    have keep : ∀ b u, b ≠ p → H2 b = some u → (upd H2 p (.lst (vs.set j v))) b = some u := fun b u n e => by rw [upd_ne n]; exact e
    have hin : p ∈ hid μ as2 := (hid_kill k hk rfl hp R2.nd p).mpr (.inl rfl)
    have g : Same (Hide (hid μ as2 ++ F.z) H2) (Hide (hid μ as2 ++ F.z) (upd H2 p (.lst (vs.set j v)))) := fun b u e => by
      obtain ⟨n, e⟩ := hide_some e
      rw [hide_out n]
      exact keep b u (fun q => n (List.mem_append_left _ (q ▸ hin))) e
    have xv : Dat (Hide (hid μ as2 ++ F.z) H2) v d := (a1.trans a2).dat (dat_slot x)
    obtain ⟨R3, a3⟩ := R2.poke (c' := .lst (ds.set j d)) (H' := upd H2 p (.lst (vs.set j v))) hk rfl hp keep rfl ⟨_, upd_same, (xl.set xv j).mono (.of g)⟩
    exact kk as2 _ _ ⟨R3, p1.trans p2, (a1.trans a2).trans a3⟩
def Wgs (F : Fm) (g : TGs) (ρ : List Slot) (μ : List Cell) (ds : List D) (ρ' : List Slot) (μ' : List Cell) : Prop :=
  ∀ (as : List Addr) (σ : St) (H : Hp) (vs : List V), Rel F ρ μ as σ H → Dats (Hide (hid μ as ++ F.z) H) vs ds → ∀ Q : St → Hp → Prop,
    (∀ as' σ' H', Far F ρ' μ' as (hid μ as) H as' σ' H' → Q σ' H') → g vs σ H Q
theorem wgs_nil : Wgs F gNil ρ μ [] ρ μ := fun as σ H vs R x Q k => by
  cases x
  exact ⟨rfl, k as σ H ⟨R, List.prefix_refl _, .refl _ _⟩⟩
theorem wgs_cons {d : D} {ds : List D} (h : Wg F g ρ μ (.dat d) ρ1 μ1) (hs : Wgs F gs ρ1 μ1 ds ρ2 μ2) : Wgs F (gCons g gs) ρ μ (d :: ds) ρ2 μ2 := fun as σ H vs R x Q k => by
  cases x with
  | @cons v _ vs _ x xs =>
    exact ⟨v, vs, rfl, h as σ H v R ⟨v, rfl, x⟩ _ fun as1 σ1 H1 f => hs as1 σ1 H1 vs f.rel (f.adv.dats xs) _ fun as2 σ2 H2 f2 => k as2 σ2 H2 ⟨f2.rel, f.pre.trans f2.pre, f.adv.trans f2.adv⟩⟩
theorem wg_tup {K : PySem.W.Frag} {n : Nat} {ds : List D} (hn : ds.length = n) (hs : Wgs F gs ρ μ ds ρ1 μ1) : Wg F (gTup K n gs) ρ μ (.dat (.tup ds)) ρ1 μ1 := fun as σ H v R x Q k => by
  obtain ⟨p, vs, rfl, e, r⟩ := dat_tup (dat_slot x)
  exact ⟨p, vs, rfl, SqT.of (hide_get e), by rw [r.len]; exact hn, hs as σ H vs R r Q k⟩
end
end Dl
end
section
set_option Elab.async false
set_option maxRecDepth 100000
set_option linter.all false
namespace Dl
open PySem L2
def top (i : Nat) : Stmt := PySem.Challenge.pw_surerise_k23_filled_names.main.body.getD i (.Pass ⟨0, 0, 0, 0⟩)
/-- the built-in names that the text uses are those of the built-ins -/
structure Bi (mg : Str → Option Value) : Prop where
  b_len : mg "len" = none
  b_range : mg "range" = none
  b_divmod : mg "divmod" = none
  b_int : mg "int" = none
  b_str : mg "str" = none
  b_min : mg "min" = none
  b_max : mg "max" = none
  b_abs : mg "abs" = none
  b_list : mg "list" = none
  b_tuple : mg "tuple" = none
  b_all : mg "all" = none
  b_dict : mg "dict" = none
  b_sorted : mg "sorted" = none
  b_repr : mg "repr" = none
  b_enumerate : mg "enumerate" = none
  b_isinstance : mg "isinstance" = none
  b_sum : mg "sum" = none

/-! ### the draw -/
def Pot.next (p : Pot) (m : Nat) : Pot := if 0 < p.a then ⟨p.a / m, p.b, p.hb⟩ else ⟨p.a, (p.b * 40009 + 12347) % 2147483587, by omega⟩
def Pot.draw (p : Pot) (m : Nat) : Nat := if 0 < p.a then p.a % m else (p.next m).b * (p.next m).b % 2147483549 / 13 % m
theorem Pot.draw_lt (p : Pot) {m : Nat} (h : 0 < m) : p.draw m < m := by
  unfold Pot.draw
  split
  · exact Nat.mod_lt _ h
  · exact Nat.mod_lt _ h
inductive R_draw : Pot → List D → D → Pot → Prop
  | mk (p : Pot) (m : Nat) (h : 0 < m) (h2 : m < 1073741824) : R_draw p [.int m] (.int (p.draw m : Nat)) (p.next m)
section
variable {P : Program} {w : World} {K : PySem.W.Frag} {mg : Str → Option Value} {base : Heap}
abbrev s_law_draw : Stmt := top 41
theorem sc_law_draw : FnScope ["_law_pot_here", "_law_many", "_law_digit"] ["_law_pot_here", "_law_many"] (C8.fnScope s_law_draw) := C8.fnScope_by (by decide +kernel)
theorem len_P {R : Pot → List D → D → Pot → Prop} {n : Nat} (hR : ∀ p ds d p', R p ds d p' → ds.length + 1 = n) : ∀ vs H Q E, spP R vs H Q E → vs.length = n := fun vs H Q E h => by
  obtain ⟨p, ws, z, ds, P, d, P', rfl, _, _, _, x, r, _⟩ := h
  rw [List.length_cons, x.len]
  exact hR _ _ _ _ r
theorem len_F {R : List D → D → Prop} {n : Nat} (hR : ∀ ds d, R ds d → ds.length = n) : ∀ vs H Q E, spF R vs H Q E → vs.length = n := fun vs H Q E h => by
  obtain ⟨z, ds, d, _, x, r, _⟩ := h
  rw [x.len]
  exact hR _ _ r
theorem ok_draw {f : Addr} {fd : FuncData} (Fd : C8.Def K mg "_law_draw" s_law_draw f fd) (b : Binds K fd ["_law_pot_here", "_law_many"] []) (T : Bi mg) : C8.Cal P w K mg base 1 "_law_draw" (spP R_draw) [] := by
  refine C8.cal0 Fd b .nil sc_law_draw (len_P fun p ds d p' h => by cases h; rfl) fun cdv A outer s H vs Q E hr h => ?_
  refine ⟨_, (pss_cons (ps_if (pt_cmpR op_gt (pe_ix ix_list (pv 0) pe_int (fun _ _ => rfl)) pe_int (nomark _))
      (pss_cons (ps_asg (pe_callB call_divmod (by rfl) T.b_divmod (by decide +kernel) (pa_cons (pe_ix ix_list (pv 0) pe_int (fun _ _ => rfl)) (pa_cons (pv 1) pa_nil))) (pg_tup rfl (pgs_cons (pg_sub (pv 0) pe_int set_list) (pgs_cons (pg_name (i := 2) sc_law_draw.nd rfl (Or.inl rfl)) pgs_nil))))
      (pss_one (ps_ret (pv 2)))) pss_nil)
      (pss_cons (ps_asg (pe_op op_mod (pe_callTy call_int1 (by rfl) T.b_int (by decide +kernel) (pa_cons (pe_op op_add (pe_op op_mul (pe_ix ix_list (pv 0) pe_int (fun _ _ => rfl)) pe_int) pe_int) pa_nil)) pe_int) (pg_sub (pv 0) pe_int set_list))
      (pss_one (ps_ret (pe_op op_mod (pe_callTy call_int1 (by rfl) T.b_int (by decide +kernel) (pa_cons (pe_op op_fdiv (pe_op op_mod (pe_callTy call_int1 (by rfl) T.b_int (by decide +kernel) (pa_cons (pe_op op_mul (pe_ix ix_list (pv 0) pe_int (fun _ _ => rfl)) (pe_ix ix_list (pv 0) pe_int (fun _ _ => rfl))) pa_nil)) pe_int) pe_int) pa_nil)) (pv 1)))))), run_P h ?_⟩
  rintro p _ _ _ ⟨m, hm, hm2⟩ F -
  by_cases ha : 0 < p.a
  · have e1 : p.draw m = p.a % m := if_pos ha
    have e2 : p.next m = ⟨p.a / m, p.b, p.hb⟩ := if_pos ha
    rw [e1, e2]
    refine ⟨_, .rt [], ?_⟩
    have h1 : decide ((0 : Int) < (p.a : Int)) = true := by simpa using ha
    refine ws_seq_rt (ws_if (b := true) (by rw [← h1]; exact (evt_test (ev_op opd_gt (ev_ixC (ev_var 0 rfl (by simp)) (ev_int _) rfl rfl) (ev_int _)))) (fun _ => ?_) (fun e => by cases e))
    refine ws_seq (ws_asg (ev_cb (ds := [_, _]) (cd_divmod (C := CDiv) ?_) (eva_cons (ev_ixC (ev_var 0 rfl (by simp)) (ev_int _) rfl rfl) (eva_cons (ev_var 1 rfl (by simp)) eva_nil))) (wg_tup rfl (wgs_cons (wg_sub (j := 0) (ev_var 0 rfl (by simp)) (ev_int _) rfl rfl) (wgs_cons (wg_name 2) wgs_nil)))) ?_
    · exact ⟨by omega, by omega⟩
    exact ws_ret (ev_var 2 rfl (by simp))
  · obtain ⟨c, hc⟩ : ∃ c, c = (p.b * 40009 + 12347) % 2147483587 := ⟨_, rfl⟩
    have hc2 : c < 2147483587 := by omega
    have e2 : p.next m = ⟨p.a, c, by omega⟩ := by
      subst hc
      exact if_neg ha
    have e1 : p.draw m = c * c % 2147483549 / 13 % m := by
      unfold Pot.draw
      rw [if_neg ha, e2]
    rw [e1, e2]
    refine ⟨_, .rt [], ?_⟩
    have h1 : decide ((0 : Int) < (p.a : Int)) = false := by simpa using ha
    have hb := p.hb
    refine ws_seq (ws_if (b := false) (by rw [← h1]; exact (evt_test (ev_op opd_gt (ev_ixC (ev_var 0 rfl (by simp)) (ev_int _) rfl rfl) (ev_int _)))) (fun e => by cases e) (fun _ => ws_next)) ?_
    refine ws_seq (ws_asg (ev_op (opd_I ?_ fun _ => .int _) (ev_cb (ds := [_]) cd_int (eva_cons (ev_op opd_add (ev_op (opd_I ?_ fun _ => .int _) (ev_ixC (ev_var 0 rfl (by simp)) (ev_int _) rfl rfl) (ev_int _)) (ev_int _)) eva_nil)) (ev_int _)) (wg_sub (j := 1) (ev_var 0 rfl (by simp)) (ev_int _) rfl ?_)) ?_
    · show (0 : Int) < 2147483587; decide
    · exact .inr ⟨by decide, by decide⟩
    · rfl
    have e3 : ((p.b : Int) * 40009 + 12347) % 2147483587 = (c : Int) := by omega
    show Ws F _ _ ([Cell.lst [.int p.a, .int (((p.b : Int) * 40009 + 12347) % 2147483587)]]) _
    rw [e3]
    have e4 : (((c * c % 2147483549 / 13 % m : Nat)) : Int) = ((c : Int) * (c : Int)) % 2147483549 / 13 % (m : Int) := by
      rw [Int.natCast_emod, Int.natCast_ediv, Int.natCast_emod, Int.natCast_mul]
      rfl
    rw [e4]
    refine ws_ret (ev_op (opd_I ?_ fun _ => .int _) (ev_cb (ds := [_]) cd_int (eva_cons (ev_op (opd_I ?_ fun _ => .int _) (ev_op (opd_I ?_ fun _ => .int _) (ev_cb (ds := [_]) cd_int (eva_cons (ev_op (opd_I ?_ fun _ => .int _) (ev_ixC (ev_var 0 rfl (by simp)) (ev_int _) rfl rfl) (ev_ixC (ev_var 0 rfl (by simp)) (ev_int _) rfl rfl)) eva_nil)) (ev_int _)) (ev_int _)) eva_nil)) (ev_var 1 rfl (by simp)))
    · show (0 : Int) < m; omega
    · exact ⟨by decide, by decide⟩
    · show (0 : Int) < 2147483549; decide
    · exact .inl ⟨by omega, by omega⟩
end
end Dl
end
section
set_option Elab.async false
set_option maxRecDepth 100000
set_option linter.all false
namespace Dl
open PySem L2
section
variable {F : Fm} {ρ ρ1 ρ2 : List Slot} {μ μ1 μ2 μ3 : List Cell} {r r1 r2 : Slot} {rs : List Slot} {ta tb tc te tl td tk tv : TE} {t : TA} {o o1 o2 : Out} {tt tu : TT} {ts us : TS} {g : TG} {gs : TGs}
/-! ### dicts -/
def lookD (es : List (Key × D)) (k : Key) : Option D := (es.find? fun e => decide (e.1 = k)).map (·.2)
def putD (es : List (Key × D)) (k : Key) (d : D) : List (Key × D) := if (es.any fun e => decide (e.1 = k)) = true then es.map (fun e => if e.1 = k then (e.1, d) else e) else es ++ [(k, d)]
theorem lookD_pos {e : Key × D} {r : List (Key × D)} {k : Key} (h : e.1 = k) : lookD (e :: r) k = some e.2 := by simp [lookD, List.find?_cons, h]
theorem lookD_neg {e : Key × D} {r : List (Key × D)} {k : Key} (h : ¬ e.1 = k) : lookD (e :: r) k = lookD r k := by simp [lookD, List.find?_cons, h]
theorem DatK.look {H : Hp} {k : Key} : ∀ {kvs : List (Key × V)} {es : List (Key × D)}, DatK H kvs es → (valV kvs k = none ∧ lookD es k = none) ∨ ∃ v d, valV kvs k = some v ∧ lookD es k = some d ∧ Dat H v d
  | _, _, .nil => .inl ⟨rfl, rfl⟩
  | _, _, @DatK.cons _ k' v d kvs es x r => by
    by_cases h : k' = k
    · exact .inr ⟨v, d, valV_pos (p := (k', v)) h, lookD_pos (e := (k', d)) h, x⟩
    · rw [valV_neg (p := (k', v)) h, lookD_neg (e := (k', d)) h]
      exact DatK.look r
theorem DatK.any {H : Hp} {k : Key} : ∀ {kvs : List (Key × V)} {es : List (Key × D)}, DatK H kvs es → (kvs.any fun kv => decide (kv.1 = k)) = (es.any fun e => decide (e.1 = k))
  | _, _, .nil => rfl
  | _, _, .cons _ r => by rw [List.any_cons, List.any_cons, DatK.any r]
theorem DatK.snoc {H : Hp} {k : Key} {v : V} {d : D} (x : Dat H v d) : ∀ {kvs : List (Key × V)} {es : List (Key × D)}, DatK H kvs es → DatK H (kvs ++ [(k, v)]) (es ++ [(k, d)])
  | _, _, .nil => .cons x .nil
  | _, _, .cons y r => .cons y (DatK.snoc x r)
theorem DatK.mapIf {H : Hp} {k : Key} {v : V} {d : D} (x : Dat H v d) : ∀ {kvs : List (Key × V)} {es : List (Key × D)}, DatK H kvs es → DatK H (kvs.map fun kv => if kv.1 = k then (kv.1, v) else kv) (es.map fun e => if e.1 = k then (e.1, d) else e)
  | _, _, .nil => .nil
  | _, _, @DatK.cons _ k' v' d' kvs es y r => by
    rw [List.map_cons, List.map_cons]
    by_cases h : k' = k
    · rw [if_pos (show (k', v').1 = k from h), if_pos (show (k', d').1 = k from h)]
      exact .cons x (DatK.mapIf x r)
    · rw [if_neg (show ¬ (k', v').1 = k from h), if_neg (show ¬ (k', d').1 = k from h)]
      exact .cons y (DatK.mapIf x r)
theorem DatK.put {H : Hp} {k : Key} {v : V} {d : D} (x : Dat H v d) {kvs : List (Key × V)} {es : List (Key × D)} (r : DatK H kvs es) : DatK H (putK kvs k v) (putD es k d) := by
  unfold putK putD
  rw [r.any]
  split
  · exact r.mapIf x
  · exact r.snoc x
theorem rd_hide {h : List Addr} {H : Hp} {p : Addr} {u : HO} (e : Rd (Hide h H) p u) : Rd H p u := e.imp hide_get fun ⟨o, e⟩ => ⟨o, hide_get e⟩
/-- d[k] -/
theorem ev_dget {es : List (Key × D)} {k : Key} {d : D} (hd : lookD es k = some d) (ha : Ev F td ρ μ (.dat (.dic es)) μ1) (hb : Ev F tk ρ μ1 (.dat (keyD k)) μ2) : Ev F (tDGet td tk) ρ μ (.dat d) μ2 := fun as σ H R Q kk =>
  ha as σ H R _ fun v1 as1 H1 R1 p1 a1 x1 => hb as1 σ H1 R1 _ fun v2 as2 H2 R2 p2 a2 x2 => by
    obtain ⟨p, kvs, rfl, e, r⟩ := dat_dic (a2.dat (dat_slot x1))
    have ek : v2 = kV k := by
      cases k with
      | inl i => exact dat_int (dat_slot x2)
      | inr x => exact dat_str (dat_slot x2)
    subst ek
    rcases r.look (k := k) with ⟨_, q⟩ | ⟨v, d', h1, h2, dv⟩
    · rw [hd] at q; cases q
    · rw [hd] at h2
      cases h2
      exact ⟨p, v, rfl, .inl ⟨kvs, k, rd_hide e, rfl, h1.symm⟩, kk v as2 H2 R2 (p1.trans p2) (a1.trans a2) ⟨v, rfl, dv⟩⟩
theorem dat_keyV {H : Hp} {v : V} {k : Key} (x : Dat H v (keyD k)) : v = kV k := by
  cases k with
  | inl i => exact dat_int x
  | inr y => exact dat_str x
/-- d.get(k, e) -/
theorem ev_dget2 {es : List (Key × D)} {k : Key} {d : D} (ha : Ev F td ρ μ (.dat (.dic es)) μ1) (hb : Ev F tk ρ μ1 (.dat (keyD k)) μ2) (hc : Ev F tv ρ μ2 (.dat d) μ3) : Ev F (tDGet2 td tk tv) ρ μ (.dat ((lookD es k).getD d)) μ3 := fun as σ H R Q kk =>
  ha as σ H R _ fun v1 as1 H1 R1 p1 a1 x1 => by
    obtain ⟨p, kvs, rfl, e, r⟩ := dat_dic (dat_slot x1)
    refine ⟨p, rfl, .inl ⟨kvs, rd_hide e⟩, hb as1 σ H1 R1 _ fun v2 as2 H2 R2 p2 a2 x2 => hc as2 σ H2 R2 _ fun v3 as3 H3 R3 p3 a3 x3 => ?_⟩
    obtain ⟨p', kvs', ep, e', r'⟩ := dat_dic ((a2.trans a3).dat (dat_slot x1))
    cases ep
    cases dat_keyV (dat_slot x2)
    refine ⟨valV kvs' k, .inl ⟨kvs', k, rd_hide e', rfl, rfl⟩, ?_⟩
    rcases r'.look (k := k) with ⟨q1, q2⟩ | ⟨v, d', h1, h2, dv⟩
    · rw [q1]
      rw [q2] at kk
      exact kk _ as3 H3 R3 (p1.trans (p2.trans p3)) (a1.trans (a2.trans a3)) ⟨_, rfl, dat_slot x3⟩
    · rw [h1]
      rw [h2] at kk
      exact kk _ as3 H3 R3 (p1.trans (p2.trans p3)) (a1.trans (a2.trans a3)) ⟨_, rfl, dv⟩
/-- k in d -/
theorem ev_inD {es : List (Key × D)} {k : Key} (hb : Ev F tk ρ μ (.dat (keyD k)) μ1) (ha : Ev F td ρ μ1 (.dat (.dic es)) μ2) : Ev F (tDIn tk td) ρ μ (.dat (.bl (lookD es k).isSome)) μ2 := fun as σ H R Q kk =>
  hb as σ H R _ fun v1 as1 H1 R1 p1 a1 x1 => ha as1 σ H1 R1 _ fun v2 as2 H2 R2 p2 a2 x2 => by
    obtain ⟨p, kvs, rfl, e, r⟩ := dat_dic (dat_slot x2)
    cases dat_keyV (dat_slot x1)
    refine ⟨p, valV kvs k, rfl, .inl ⟨kvs, k, rd_hide e, rfl, rfl⟩, ?_⟩
    have : (valV kvs k).isSome = (lookD es k).isSome := by
      rcases r.look (k := k) with ⟨q1, q2⟩ | ⟨v, d', h1, h2, dv⟩
      · rw [q1, q2]; rfl
      · rw [h1, h2]; rfl
    rw [this]
    exact kk _ as2 H2 R2 (p1.trans p2) (a1.trans a2) ⟨_, rfl, .bl _⟩
theorem ev_notinD {es : List (Key × D)} {k : Key} (hb : Ev F tk ρ μ (.dat (keyD k)) μ1) (ha : Ev F td ρ μ1 (.dat (.dic es)) μ2) : Ev F (tDNotIn tk td) ρ μ (.dat (.bl (!(lookD es k).isSome))) μ2 := fun as σ H R Q kk =>
  hb as σ H R _ fun v1 as1 H1 R1 p1 a1 x1 => ha as1 σ H1 R1 _ fun v2 as2 H2 R2 p2 a2 x2 => by
    obtain ⟨p, kvs, rfl, e, r⟩ := dat_dic (dat_slot x2)
    cases dat_keyV (dat_slot x1)
    refine ⟨p, valV kvs k, rfl, .inl ⟨kvs, k, rd_hide e, rfl, rfl⟩, ?_⟩
    have : (valV kvs k).isSome = (lookD es k).isSome := by
      rcases r.look (k := k) with ⟨q1, q2⟩ | ⟨v, d', h1, h2, dv⟩
      · rw [q1, q2]; rfl
      · rw [h1, h2]; rfl
    rw [this]
    exact kk _ as2 H2 R2 (p1.trans p2) (a1.trans a2) ⟨_, rfl, .bl _⟩
/-- {} that stays the def's own -/
theorem ev_dnewO (n : Nat) (hn : n = μ.length) : Ev F tDNewK ρ μ (.cell n) (μ ++ [.dic []]) := fun as σ H R Q k l nl => by
  obtain ⟨R2, a2⟩ := R.snoc (H' := upd H l (.dK [])) (c := .dic []) nl (same_upd nl) rfl fun h s => ⟨[], upd_same, .nil⟩
  refine k _ _ _ R2 (List.prefix_append _ _) a2 ⟨l, ?_, rfl⟩
  subst hn
  rw [pd_len R.cells]
  simp
theorem ev_dnew : Ev F tDNewK ρ μ (.dat (.dic [])) μ := fun as σ H R Q k l nl =>
  k _ as _ (R.same (same_upd nl)) (List.prefix_refl _) (.same (same_upd nl)) ⟨_, rfl, .dic (.inl (hide_new R.live nl)) .nil⟩
/-- d[k] = e, d a dict cell -/
theorem wg_subD {n : Nat} {es : List (Key × D)} {k : Key} {d : D} (ha : Ev F ta ρ μ (.cell n) μ) (hb : Ev F tb ρ μ (.dat (keyD k)) μ) (hk : μ[n]? = some (.dic es)) (hz : es.length < sizeLine) :
    Wg F (gSub ta tb rSetD) ρ μ (.dat d) ρ (μ.set n (.dic (putD es k d))) := fun as σ H v R x Q kk =>
  ha as σ H R _ fun v1 as1 H1 R1 p1 a1 x1 => hb as1 σ H1 R1 _ fun v2 as2 H2 R2 p2 a2 x2 => by
    obtain ⟨p, hp, e'⟩ := SlotOk.ext p2 x1
    cases e'
    cases dat_keyV (dat_slot x2)
    obtain ⟨q, hq, kvs, el, xl⟩ := R2.cell hk
    rw [hp] at hq
    cases hq
    refine ⟨p, _, rfl, DPut.k el (by rw [xl.len]; exact hz), ?_⟩
    have keep : ∀ b u, b ≠ p → H2 b = some u → (upd H2 p (.dK (putK kvs k v))) b = some u := fun b u n e => by rw [upd_ne n]; exact e
    have hin : p ∈ hid μ as2 := (hid_kill n hk rfl hp R2.nd p).mpr (.inl rfl)
    have g : Same (Hide (hid μ as2 ++ F.z) H2) (Hide (hid μ as2 ++ F.z) (upd H2 p (.dK (putK kvs k v)))) := fun b u e => by
      obtain ⟨n, e⟩ := hide_some e
      rw [hide_out n]
      exact keep b u (fun q => n (List.mem_append_left _ (q ▸ hin))) e
    have xv : Dat (Hide (hid μ as2 ++ F.z) H2) v d := (a1.trans a2).dat (dat_slot x)
    obtain ⟨R3, a3⟩ := R2.poke (c' := .dic (putD es k d)) (H' := upd H2 p (.dK (putK kvs k v))) hk rfl hp keep rfl ⟨_, upd_same, (xl.put xv).mono (.of g)⟩
    exact kk as2 _ _ ⟨R3, p1.trans p2, (a1.trans a2).trans a3⟩
/-! ### a dict locked while it is walked -/
/-- locked, or locked already -/
def tLE (t : TE) : TE := fun σ H Q => tLockE t σ H Q ∨ t σ H Q
def tLS (t : TS) : TS := fun D σ H => tLock t D σ H ∨ t D σ H
theorem pe_le {X : Cx} {e : Expr} {t : TE} (h : PE X e t) : PE X e (tLE t) := ⟨fun pins s σ H Q I hw => hw.elim (fun w => (pe_lock h).run pins s σ H Q I w) fun w => h.run pins s σ H Q I w⟩
theorem ps_le {X : Cx} {e : Stmt} {t : TS} (h : PS X e t) : PS X e (tLS t) := ⟨fun pins s σ H D I hw => hw.elim (fun w => (ps_lock h).run pins s σ H D I w) fun w => h.run pins s σ H D I w⟩
def Fm.lock (F : Fm) (p : Addr) (u : HO) : Fm := { F with B := fun b => if b = p then (F.B b).map (fun _ => u) else F.B b }
theorem ge_lock {h : List Addr} {H : Hp} {p : Addr} {kvs : List (Key × V)} {od : Obj} (e : H p = some (.dK kvs)) : Ge (Hide h H) (Hide h (upd H p (.frz od (.dK kvs)))) := by
  have ne : ∀ b o, Hide h H b = some o → o ≠ .dK kvs → Hide h (upd H p (.frz od (.dK kvs))) b = some o := fun b o q n => by
    obtain ⟨nh, q⟩ := hide_some q
    rw [hide_out nh, upd_ne (fun z => by subst z; rw [e] at q; cases q; exact n rfl)]
    exact q
  refine ⟨fun b xs q => ne b _ q (by simp), fun b xs q => ne b _ q (by simp), fun b ks q => ?_, fun b C dx fs q => ne b _ q (by simp)⟩
  rcases q with q | ⟨o, q⟩
  · by_cases hb : b = p
    · subst hb
      obtain ⟨nh, q⟩ := hide_some q
      rw [e] at q
      cases q
      exact .inr ⟨od, by rw [hide_out nh, upd_same]⟩
    · obtain ⟨nh, q⟩ := hide_some q
      exact .inl (by rw [hide_out nh, upd_ne hb]; exact q)
  · exact .inr ⟨o, ne b _ q (by simp)⟩
theorem ge_unlock {h : List Addr} {H : Hp} {p : Addr} {kvs : List (Key × V)} {od : Obj} (e : H p = some (.frz od (.dK kvs))) : Ge (Hide h H) (Hide h (upd H p (.dK kvs))) := by
  have ne : ∀ b o, Hide h H b = some o → o ≠ .frz od (.dK kvs) → Hide h (upd H p (.dK kvs)) b = some o := fun b o q n => by
    obtain ⟨nh, q⟩ := hide_some q
    rw [hide_out nh, upd_ne (fun z => by subst z; rw [e] at q; cases q; exact n rfl)]
    exact q
  refine ⟨fun b xs q => ne b _ q (by simp), fun b xs q => ne b _ q (by simp), fun b ks q => ?_, fun b C dx fs q => ne b _ q (by simp)⟩
  rcases q with q | ⟨o, q⟩
  · exact .inl (ne b _ q (by simp))
  · by_cases hb : b = p
    · subst hb
      obtain ⟨nh, q⟩ := hide_some q
      rw [e] at q
      cases q
      exact .inl (by rw [hide_out nh, upd_same])
    · obtain ⟨nh, q⟩ := hide_some q
      exact .inr ⟨o, by rw [hide_out nh, upd_ne hb]; exact q⟩
theorem Rel.ge {as : List Addr} {σ : St} {H H' : Hp} (R : Rel F ρ μ as σ H) {B' : Hp} (g : Ge (Hide (hid μ as ++ F.z) H) (Hide (hid μ as ++ F.z) H')) (th : ∀ a, H a ≠ none → H' a ≠ none) (cl : ∀ a u, a ∈ hid μ as → H a = some u → H' a = some u)
    (hB : ∀ b o, b ∉ F.ps → B' b = some o → H' b = some o) (hf : ∀ a ∈ as, a ∈ F.ps ∨ B' a = none) : Rel { F with B := B' } ρ μ as σ H' := by
  refine { cells := ?_, slots := ?_, nd := R.nd, zl := fun a m => th a (R.zl a m), dj := R.dj, base := hB, pre := R.pre, fresh := hf, there := fun a m => th a (R.there a m) }
  · -- live cells stand
    have cs := R.cells
    have aux : ∀ (μ' : List Cell) (as' : List Addr), (∀ a, a ∈ hid μ' as' → a ∈ hid μ as) → Paired (CellOk (hid μ as ++ F.z) as H) μ' as' → Paired (CellOk (hid μ as ++ F.z) as H') μ' as' := by
      intro μ' as' hs p
      induction p with
      | nil => exact .nil
      | @cons c a μ' as' h t ih =>
        refine .cons ?_ (ih fun b m => hs b ?_)
        · cases c with
          | lst ds => obtain ⟨vs, e, x⟩ := h; exact ⟨vs, cl a _ (hs a (by simp [hid, Cell.live])) e, x.mono g⟩
          | dic ds => obtain ⟨vs, e, x⟩ := h; exact ⟨vs, cl a _ (hs a (by simp [hid, Cell.live])) e, x.mono g⟩
          | ins C dx fs => obtain ⟨vs, e, x⟩ := h; exact ⟨vs, cl a _ (hs a (by simp [hid, Cell.live])) e, pd_imp x fun f g' y => ⟨y.1, SlotOk.mono g y.2⟩⟩
          | dcs fs => obtain ⟨vs, e, x⟩ := h; exact ⟨vs, cl a _ (hs a (by simp [hid, Cell.live])) e, pd_imp x fun f g' y => ⟨y.1, SlotOk.mono g y.2⟩⟩
          | dead => trivial
        · unfold hid
          split
          · exact List.mem_cons_of_mem _ m
          · exact m
    exact aux μ as (fun a m => m) cs
  · refine pd_imp R.slots fun x o r => ?_
    cases x with
    | un => trivial
    | dat d => obtain ⟨v, e, y⟩ := r; exact ⟨v, e, y.mono g⟩
    | cell k => exact r
    | val v => exact r
/-- td reads off the slots where a dict stands, and changes nothing -/
def EvP (td : TE) (ρ : List Slot) (μ : List Cell) (es : List (Key × D)) : Prop :=
  ∀ (F : Fm) (as : List Addr) (σ : St) (H : Hp), Rel F ρ μ as σ H → ∃ p kvs, p ∉ hid μ as ++ F.z ∧ Rd H p (.dK kvs) ∧ DatK (Hide (hid μ as ++ F.z) H) kvs es ∧
    ∀ (H' : Hp) (Q : VK), Ge (Hide (hid μ as ++ F.z) H) (Hide (hid μ as ++ F.z) H') → (∀ b u, b ∈ hid μ as → H b = some u → H' b = some u) → Q (.ref p) H' → td σ H' Q
theorem evp_var (i : Nat) {es : List (Key × D)} (h : ρ[i]? = some (.dat (.dic es))) : EvP (tVar i) ρ μ es := fun F as σ H R => by
  obtain ⟨o, e, v, rfl, x⟩ := R.slot h
  obtain ⟨p, kvs, rfl, q, r⟩ := dat_dic x
  refine ⟨p, kvs, ?_, rd_hide q, r, fun H' Q _ _ k => ⟨_, e, k⟩⟩
  rcases q with q | ⟨o, q⟩
  · exact (hide_some q).1
  · exact (hide_some q).1
/-- the dict at a key of a dict -/
theorem evp_get (i : Nat) {k : Str} {es es' : List (Key × D)} (h : ρ[i]? = some (.dat (.dic es))) (hd : lookD es (.inr k) = some (.dic es')) : EvP (tDGet (tVar i) (tC (.str k))) ρ μ es' := fun F as σ H R => by
  obtain ⟨o, e, v, rfl, x⟩ := R.slot h
  obtain ⟨p, kvs, rfl, q, r⟩ := dat_dic x
  rcases r.look (k := .inr k) with ⟨_, q2⟩ | ⟨v, d', h1, h2, dv⟩
  · rw [hd] at q2; cases q2
  · rw [hd] at h2
    cases h2
    obtain ⟨p2, kvs2, rfl, q2, r2⟩ := dat_dic dv
    refine ⟨p2, kvs2, ?_, rd_hide q2, r2, fun H' Q g _ kk => ⟨_, e, p, .ref p2, rfl, .inl ⟨kvs, .inr k, rd_hide (g.dic p kvs q), rfl, h1.symm⟩, kk⟩⟩
    rcases q2 with q2 | ⟨o, q2⟩
    · exact (hide_some q2).1
    · exact (hide_some q2).1
/-- where a locked dict stands -/
structure Lk (td : TE) (h : List Addr) (σ : St) (H : Hp) (es : List (Key × D)) (p : Addr) (kvs : List (Key × V)) (o : Obj) : Prop where
  vis : p ∉ h
  at_ : H p = some (.frz o (.dK kvs))
  dat : DatK (Hide h H) kvs es
  run : ∀ Q : VK, Q (.ref p) H → td σ H Q
theorem lock_in {as : List Addr} {σ : St} {H : Hp} (R : Rel F ρ μ as σ H) {p : Addr} {kvs : List (Key × V)} (e : H p = some (.dK kvs)) (vis : p ∉ hid μ as ++ F.z) (od : Obj) : Rel (F.lock p (.frz od (.dK kvs))) ρ μ as σ (upd H p (.frz od (.dK kvs))) := by
  refine R.ge (ge_lock e) (fun a n q => ?_) (fun a u m q => ?_) (fun b o n q => ?_) fun a m => ?_
  · by_cases ha : a = p
    · subst ha; rw [upd_same] at q; cases q
    · rw [upd_ne ha] at q; exact n q
  · rw [upd_ne (show a ≠ p from fun z => vis (List.mem_append_left _ (by rw [← z]; exact m)))]
    exact q
  · by_cases hb : b = p
    · rw [if_pos hb] at q
      subst hb
      rw [upd_same]
      cases h : F.B b with
      | none => rw [h] at q; cases q
      | some u => rw [h] at q; exact q
    · rw [if_neg hb] at q
      rw [upd_ne hb]
      exact R.base b o n q
  · rcases R.fresh a m with h | h
    · exact .inl h
    · right
      show (if a = p then (F.B a).map _ else F.B a) = none
      rw [h]
      split <;> rfl
theorem lock_out {as as' : List Addr} {σ σ' : St} {H H' : Hp} {ρ' : List Slot} {μ' : List Cell} (R : Rel F ρ μ as σ H) {p : Addr} {kvs : List (Key × V)} (e : H p = some (.dK kvs)) (vis : p ∉ hid μ as ++ F.z) {od : Obj} (R' : Rel (F.lock p (.frz od (.dK kvs))) ρ' μ' as' σ' H')
    (a : Adv (hid μ as) (hid μ' as') (upd H p (.frz od (.dK kvs))) H') :
    H' p = some (.frz od (.dK kvs)) ∧ Rel F ρ' μ' as' σ' (upd H' p (.dK kvs)) ∧ Adv (hid μ as) (hid μ' as') H (upd H' p (.dK kvs)) ∧ Ge (Hide (hid μ' as' ++ F.z) H') (Hide (hid μ' as' ++ F.z) (upd H' p (.dK kvs))) := by
  have e' : H' p = some (.frz od (.dK kvs)) := a.keep p _ (fun m => vis (List.mem_append_left _ m)) upd_same
  have adv : Adv (hid μ as) (hid μ' as') H (upd H' p (.dK kvs)) := by
    refine ⟨fun b o n q => ?_, fun b m => ?_⟩
    · by_cases hb : b = p
      · subst hb
        rw [e] at q
        rw [upd_same]
        exact q
      · rw [upd_ne hb]
        exact a.keep b o n (by rw [upd_ne hb]; exact q)
    · rcases a.new b m with q | q
      · exact .inl q
      · right
        by_cases hb : b = p
        · subst hb; rw [upd_same] at q; cases q
        · rw [upd_ne hb] at q; exact q
  refine ⟨e', ?_, adv, ge_unlock e'⟩
  have vis' : p ∉ hid μ' as' := fun m => by
    rcases a.new p m with q | q
    · exact vis (List.mem_append_left _ q)
    · rw [upd_same] at q; cases q
  refine Rel.ge R' (B' := F.B) (ge_unlock e') (fun c n q => ?_) (fun c u m q => ?_) (fun b o n q => ?_) fun c m => ?_
  · by_cases hc : c = p
    · subst hc; rw [upd_same] at q; cases q
    · rw [upd_ne hc] at q; exact n q
  · rw [upd_ne (show c ≠ p from fun z => vis' (by rw [← z]; exact m))]
    exact q
  · by_cases hb : b = p
    · subst hb
      rw [upd_same]
      rw [← e]
      exact R.base b o n q
    · rw [upd_ne hb]
      refine R'.base b o n ?_
      show (if b = p then (F.B b).map _ else F.B b) = some o
      rw [if_neg hb]
      exact q
  · rcases R'.fresh c m with h | h
    · exact .inl h
    · have h : (if c = p then (F.B c).map _ else F.B c) = none := h
      right
      by_cases hc : c = p
      · rw [if_pos hc] at h
        cases q : F.B c with
        | none => rfl
        | some o => rw [q] at h; cases h
      · rw [if_neg hc] at h
        exact h
theorem ev_lock {body : TE} {es : List (Key × D)} {d : D} {μ' : List Cell} (hp : EvP td ρ μ es) (hb : ∀ (F : Fm) (as : List Addr) (σ : St) (H : Hp) p kvs o, Lk td (hid μ as ++ F.z) σ H es p kvs o → EvAt F body ρ μ (.dat d) μ' as σ H) :
    Ev F (tLE body) ρ μ (.dat d) μ' := fun as σ H R Q k => by
  obtain ⟨p, kvs, vis, rd, dk, run⟩ := hp F as σ H R
  rcases rd with e | ⟨o, e⟩
  · left
    refine ⟨p, .dK kvs, e, trivial, fun od => ?_⟩
    have R1 := lock_in R e vis od
    refine hb (F.lock p (.frz od (.dK kvs))) as σ _ p kvs od ⟨vis, upd_same, dk.mono (ge_lock e), fun Q q => run _ Q (ge_lock e) (fun b u m q => by rw [upd_ne (show b ≠ p from fun z => vis (List.mem_append_left _ (by rw [← z]; exact m)))]; exact q) q⟩ R1 _ fun v as' H' R' pf a sv => ?_
    obtain ⟨e', R2, a2, g⟩ := lock_out R e vis R' a
    exact ⟨e', k v as' _ R2 pf a2 ⟨v, rfl, (dat_slot sv).mono g⟩⟩
  · exact .inr (hb F as σ H p kvs o ⟨vis, e, dk, fun Q q => run H Q ⟨fun _ _ h => h, fun _ _ h => h, fun _ _ h => h, fun _ _ _ _ h => h⟩ (fun _ _ _ h => h) q⟩ R Q k)
theorem evi_keys_at {as : List Addr} {σ : St} {H : Hp} {es : List (Key × D)} {p : Addr} {kvs : List (Key × V)} {ob : Obj} (L : Lk td (hid μ as ++ F.z) σ H es p kvs ob) : EvIat F (iKeys td) ρ μ (es.map fun e => keyD e.1) μ as σ H := fun R R' k => by
  refine L.run _ ⟨p, ob, rfl, .inl ⟨kvs, L.at_, k _ as H R (List.prefix_refl _) (.refl _ _) ⟨fun H => H p = some (.frz ob (.dK kvs)), fun i H x H' => H' = H ∧ ∃ k v, kvs[i]? = some (k, v) ∧ x = kV k, ?_, ?_, ?_⟩⟩⟩
  · have e : (es.map fun e => keyD e.1).length = kvs.length := by rw [List.length_map, L.dat.len]
    rw [e]
    exact walk_keys
  · intro h H' s
    have e : Hide (hid μ as ++ F.z) H p = some (.frz ob (.dK kvs)) := by rw [hide_out L.vis]; exact L.at_
    exact hide_get (s _ _ e)
  · intro i d x h H2 H3 hd s _ y
    obtain ⟨rfl, kk, v, e, rfl⟩ := y
    have ek := L.dat.keys
    have e1 : (kvs.map (·.1))[i]? = some kk := by rw [List.getElem?_map, e]; rfl
    rw [ek, List.getElem?_map] at e1
    rw [List.getElem?_map] at hd
    cases h : es[i]? with
    | none => rw [h] at hd; cases hd
    | some q =>
      rw [h] at hd e1
      cases hd
      cases e1
      exact ⟨.refl _, dat_key _⟩
theorem SlotOk.geS {h as : List Addr} {H H' : Hp} (g : Ge (Hide h H) (Hide h H')) {s : Slot} {o : Option V} (r : SlotOk h as H s o) : SlotOk h as H' s o := by
  cases s with
  | un => trivial
  | dat d => obtain ⟨v, e, y⟩ := r; exact ⟨v, e, y.mono g⟩
  | cell k => exact r
  | val v => exact r
theorem ws_lock {body : TS} {es : List (Key × D)} (hp : EvP td ρ μ es) (hb : ∀ (F : Fm) (as : List Addr) (σ : St) (H : Hp) p kvs o', Lk td (hid μ as ++ F.z) σ H es p kvs o' → WsAt F body ρ μ o as σ H) : Ws F (tLS body) ρ μ o := fun as σ H R E k => by
  obtain ⟨p, kvs, vis, rd, dk, run⟩ := hp F as σ H R
  rcases rd with e | ⟨o', e⟩
  · left
    refine ⟨p, .dK kvs, e, trivial, fun od => ?_⟩
    have R1 := lock_in R e vis od
    refine hb (F.lock p (.frz od (.dK kvs))) as σ _ p kvs od ⟨vis, upd_same, dk.mono (ge_lock e), fun Q q => run _ Q (ge_lock e) (fun b u m q => by rw [upd_ne (show b ≠ p from fun z => vis (List.mem_append_left _ (by rw [← z]; exact m)))]; exact q) q⟩ R1 _ ?_
    cases o with
    | nx ρ' μ' =>
      intro as' σ' H' f
      obtain ⟨e', R2, a2, g⟩ := lock_out R e vis f.rel f.adv
      exact ⟨e', k as' σ' _ ⟨R2, f.pre, a2⟩⟩
    | bk ρ' μ' =>
      intro as' σ' H' f
      obtain ⟨e', R2, a2, g⟩ := lock_out R e vis f.rel f.adv
      exact ⟨e', k as' σ' _ ⟨R2, f.pre, a2⟩⟩
    | ct ρ' μ' =>
      intro as' σ' H' f
      obtain ⟨e', R2, a2, g⟩ := lock_out R e vis f.rel f.adv
      exact ⟨e', k as' σ' _ ⟨R2, f.pre, a2⟩⟩
    | rt r μ' =>
      intro ρ' as' σ' H' v f sv
      obtain ⟨e', R2, a2, g⟩ := lock_out R e vis f.rel f.adv
      exact ⟨e', k ρ' as' σ' _ v ⟨R2, f.pre, a2⟩ (sv.geS g)⟩
  · exact .inr (hb F as σ H p kvs o' ⟨vis, e, dk, fun Q q => run H Q ⟨fun _ _ h => h, fun _ _ h => h, fun _ _ h => h, fun _ _ _ _ h => h⟩ (fun _ _ _ h => h) q⟩ R E k)
/-- [f(k) for k in d if p(k)], d's keys being texts -/
theorem ev_lcK {β : Type} {xs : List (Str × β)} {es : List (Key × D)} {p : Str → Bool} {f : Str → D} {ρ' : Str → List Slot} {g : TG} {tt : TT} {te : TE} {vs : List Nat} (hp : EvP td ρ μ es) (hk : es.map (·.1) = xs.map fun e => (.inr e.1 : Key)) (hw : ∀ i ∈ vs, ρ[i]? = some .un) (hsz : xs.length ≤ 1000000)
    (hg : ∀ F' a, EvG F' g vs ρ μ (.str a) (ρ' a)) (ht : ∀ F' a, a ∈ xs.map (·.1) → EvT F' tt (ρ' a) μ (p a) μ) (he : ∀ F' a, a ∈ xs.map (·.1) → p a = true → Ev F' te (ρ' a) μ (.dat (f a)) μ) :
    Ev F (tLE (tLc (iKeys td) g tt te vs)) ρ μ (.dat (.lst (((xs.map (·.1)).filter p).map f))) μ :=
  ev_lock hp fun F' as σ H q kvs o L => by
    have e : (es.map fun e => keyD e.1) = (xs.map (·.1)).map D.str := by
      have : (es.map fun e => keyD e.1) = (es.map (·.1)).map keyD := by rw [List.map_map]; rfl
      rw [this, hk, List.map_map, List.map_map]
      rfl
    have hi := evi_keys_at (ρ := ρ) L
    rw [e] at hi
    exact ev_lcF_at hi hw (by rw [List.length_map]; exact hsz) hg ht he
/-! ### instances -/
theorem DatF.look {H : Hp} {f : Str} {d : D} : ∀ {fvs : List (Str × V)} {fs : List (Str × D)}, DatF H fvs fs → fs.lookup f = some d → ∃ v, fvs.lookup f = some v ∧ Dat H v d
  | _, _, .nil, e => by simp at e
  | _, _, @DatF.cons _ k v d' fvs fs x r, e => by
    rw [List.lookup_cons] at e ⊢
    cases h : f == k with
    | true => rw [h] at e; cases e; exact ⟨v, rfl, x⟩
    | false => rw [h] at e; exact DatF.look r e
theorem DatF.none_ {H : Hp} {f : Str} : ∀ {fvs : List (Str × V)} {fs : List (Str × D)}, DatF H fvs fs → fs.lookup f = none → fvs.lookup f = none
  | _, _, .nil, e => rfl
  | _, _, @DatF.cons _ k v d' fvs fs x r, e => by
    rw [List.lookup_cons] at e ⊢
    cases h : f == k with
    | true => rw [h] at e; cases e
    | false => rw [h] at e; exact DatF.none_ r e
theorem ev_fld {K : PySem.W.Frag} {C : Addr} {f : Str} {fs : List (Str × D)} {d : D} (c : Cls K C) (n : NoAttr K C f) (hf : fs.lookup f = some d) (ha : Ev F ta ρ μ (.dat (.ins C fs)) μ1) : Ev F (tFld K ta f) ρ μ (.dat d) μ1 := fun as σ H R Q k =>
  ha as σ H R _ fun v1 as1 H1 R1 p1 a1 x1 => by
    obtain ⟨p, dx, fvs, rfl, e, r⟩ := dat_ins (dat_slot x1)
    obtain ⟨v, hv, dv⟩ := r.look hf
    exact ⟨p, C, dx, fvs, v, rfl, hide_get e, c, n, hv, k v as1 H1 R1 p1 a1 ⟨v, rfl, dv⟩⟩
theorem evp_fld {K : PySem.W.Frag} (i : Nat) {C : Addr} {f : Str} {fs : List (Str × D)} {es : List (Key × D)} (c : Cls K C) (n : NoAttr K C f) (h : ρ[i]? = some (.dat (.ins C fs))) (hf : fs.lookup f = some (.dic es)) : EvP (tFld K (tVar i) f) ρ μ es := fun F as σ H R => by
  obtain ⟨o, e, v, rfl, x⟩ := R.slot h
  obtain ⟨p, dx, fvs, rfl, q, r⟩ := dat_ins x
  obtain ⟨v, hv, dv⟩ := r.look hf
  obtain ⟨p2, kvs2, rfl, q2, r2⟩ := dat_dic dv
  refine ⟨p2, kvs2, ?_, rd_hide q2, r2, fun H' Q g _ kk => ⟨_, e, p, C, dx, fvs, .ref p2, rfl, hide_get (g.ins _ _ _ _ q), c, n, hv, kk⟩⟩
  rcases q2 with q2 | ⟨o, q2⟩
  · exact (hide_some q2).1
  · exact (hide_some q2).1
/-- o.m(..), m a method that only reads -/
theorem ev_meth {C : Addr} {m : Str} {RR : List D → D → Prop} {fs : List (Str × D)} {ds : List D} {d : D} {E : XK} (hm : fs.lookup m = none) (hr : RR (.ins C fs :: ds) d) (ha : Ev F ta ρ μ (.dat (.ins C fs)) μ1) (hb : EvA F t ρ μ1 (ds.map .dat) μ2) : Ev F (tMeth C m (spF RR) [] E ta t) ρ μ (.dat d) μ2 := fun as σ H R Q k =>
  ha as σ H R _ fun v1 as1 H1 R1 p1 a1 x1 => by
    obtain ⟨p, dx, fvs, rfl, e, r⟩ := dat_ins (dat_slot x1)
    refine ⟨p, dx, fvs, rfl, hide_get e, r.none_ hm, hb as1 σ H1 R1 _ fun vs as2 H2 R2 p2 a2 x2 => ?_⟩
    refine ⟨_, .ins C fs :: ds, d, R2.live, ?_, hr, fun v H3 s y => k v as2 H3 (R2.same s) (p1.trans p2) ((a1.trans a2).trans (.same s)) ⟨v, rfl, y⟩⟩
    rw [List.append_nil]
    exact .cons (a2.dat (dat_slot x1)) (dats_slots x2)
/-- C(..), its __init__ kept in a promise that hands back data -/
def spMk (C : Addr) (RR : List D → List (Str × D) → Prop) : Sp := fun vs H Q _ => ∃ (x dx : Addr) (ws : List V) (z : List Addr) (ds : List D) (fs : List (Str × D)), vs = .ref x :: ws ∧ x ∉ z ∧ (∀ a, a ∈ z → H a ≠ none) ∧ H x = some (.ins C dx []) ∧ H dx = some (.own x) ∧
  Dats (Hide (x :: dx :: z) H) ws ds ∧ RR ds fs ∧ ∀ H' fvs, H' x = some (.ins C dx fvs) → (∀ b o, b ≠ x → b ≠ dx → H b = some o → H' b = some o) → DatF (Hide (x :: dx :: z) H') fvs fs → Q .non H'
end
end Dl
end
section
set_option Elab.async false
set_option maxRecDepth 100000
set_option linter.all false
namespace Dl
open PySem L2
section
variable {F : Fm} {ρ ρ1 ρ2 : List Slot} {μ μ1 μ2 μ3 : List Cell} {r r1 r2 : Slot} {rs : List Slot} {ta tb tc te tl td tk tv to : TE} {t : TA} {o o1 o2 : Out} {tt tu : TT} {ts us : TS} {g : TG} {gs : TGs}
/-! ### more sources -/
theorem rngD_get {n : Nat} {lo : Int} {i : Nat} {d : D} (h : (rngD n lo)[i]? = some d) : d = .int (lo + (i : Nat)) ∧ i < n := by
  simp only [rngD, List.getElem?_map] at h
  cases e : (List.range n)[i]? with
  | none => rw [e] at h; cases h
  | some z =>
    rw [e] at h
    cases h
    have hlt : i < n := by have := (List.getElem?_eq_some_iff.mp e).1; simpa using this
    rw [List.getElem?_range hlt] at e
    cases e
    exact ⟨rfl, hlt⟩
theorem evi_range2 {i j : Int} (ha : EvA F t ρ μ [.dat (.int i), .dat (.int j)] μ1) (h : -(2 ^ 62) ≤ i ∧ i < 2 ^ 62 ∧ -(2 ^ 62) ≤ j ∧ j < 2 ^ 62) : EvI F (iRng2 t) ρ μ (rngD (j - i).toNat i) μ1 := fun as σ H R0 R k =>
  ha as σ H R0 _ fun vs as1 H1 R1 p1 a1 x1 => by
    cases x1 with
    | cons q x2 =>
      cases x2 with
      | cons q2 x3 =>
        cases x3
        cases dat_int (dat_slot q)
        cases dat_int (dat_slot q2)
        refine ⟨i, j, rfl, h, k _ as1 H1 R1 p1 a1 ⟨fun _ => True, YFn fun n => .int (i + n), ?_, fun _ _ _ => trivial, ?_⟩⟩
        · rw [rngD_len]; exact walk_range
        · intro n d x h H2 H3 hd s _ y
          obtain ⟨rfl, rfl⟩ := y
          obtain ⟨rfl, _⟩ := rngD_get hd
          exact ⟨.refl _, .int _⟩
/-- the signs of a text -/
def signs (z : Str) : List D := z.cps.toList.map fun c => .str ⟨#[c]⟩
theorem evi_str {z : Str} (h : Ev F te ρ μ (.dat (.str z)) μ1) : EvI F (iStr te) ρ μ (signs z) μ1 := fun as σ H R0 R k =>
  h as σ H R0 _ fun v as1 H1 R1 p1 a1 x1 => by
    refine ⟨z, dat_str (dat_slot x1), k _ as1 H1 R1 p1 a1 ⟨fun _ => True, fun i H v H' => H' = H ∧ ∃ c, z.cps[i]? = some c ∧ v = .str ⟨#[c]⟩, ?_, fun _ _ _ => trivial, ?_⟩⟩
    · have e : (signs z).length = z.cps.size := by simp [signs]
      rw [e]; exact walk_str
    · intro i d x h H2 H3 hd s _ y
      obtain ⟨rfl, c, e, rfl⟩ := y
      simp only [signs, List.getElem?_map] at hd
      rw [Array.getElem?_toList, e] at hd
      cases hd
      exact ⟨.refl _, .str _⟩
def zipD (xs ys : List D) : List D := (xs.zip ys).map fun p => .tup [p.1, p.2]
theorem evi_zip {K : PySem.W.Frag} {xs ys : List D} (ha : EvA F t ρ μ [.dat (.lst xs), .dat (.lst ys)] μ1) : EvI F (iZip K t) ρ μ (zipD xs ys) μ1 := fun as σ H R0 R k =>
  ha as σ H R0 _ fun vs0 as1 H1 R1 p1 a1 x1 => by
    cases x1 with
    | cons q x2 =>
      cases x2 with
      | cons q2 x3 =>
        cases x3
        obtain ⟨p, vs, rfl, e, r⟩ := dat_lst (dat_slot q)
        obtain ⟨p', vs', rfl, e', r'⟩ := dat_lst (dat_slot q2)
        refine ⟨p, p', vs, vs', rfl, SqL.of (hide_get e), SqL.of (hide_get e'), k _ as1 H1 R1 p1 a1 ⟨fun H => SqL K H p vs ∧ SqL K H p' vs', YPair (fun i => vs[i]?) (fun i => vs'[i]?), ?_, ?_, ?_⟩⟩
        · refine walk_zip ?_
          simp [zipD, r.len, r'.len]
        · intro h H' s
          exact ⟨SqL.of (hide_get (s _ _ e)), SqL.of (hide_get (s _ _ e'))⟩
        · intro i d x h H2 H3 hd s lv y
          obtain ⟨T, u, w, rfl, nT, rfl, e2, e3⟩ := y
          have e2 : vs[i]? = some u := e2
          have e3 : vs'[i]? = some w := e3
          obtain ⟨z, hz, dz⟩ := r.of_at e2
          obtain ⟨z', hz', dz'⟩ := r'.of_at e3
          have hx : d = .tup [z, z'] := by
            simp only [zipD, List.getElem?_map, List.getElem?_zip_eq_some, Option.map_eq_some_iff] at hd
            obtain ⟨⟨a, b⟩, ⟨h1, h2⟩, rfl⟩ := hd
            rw [hz] at h1; rw [hz'] at h2
            cases h1; cases h2
            rfl
          subst hx
          exact ⟨same_upd nT, .tup (hide_new lv nT) (.cons (Dat.upd nT (dz.mono (.of s))) (.cons (Dat.upd nT (dz'.mono (.of s))) .nil))⟩
theorem evg_tup2 {K : PySem.W.Frag} (i j : Nat) {d e : D} : EvG F (gTup K 2 (gCons (gName i) (gCons (gName j) gNil))) [i, j] ρ μ (.tup [d, e]) ((ρ.set i (.dat d)).set j (.dat e)) := fun as σ H v R x Q k => by
  obtain ⟨p, vs, rfl, q, r⟩ := dat_tup x
  obtain ⟨v, w, rfl, x, y⟩ := dats_2 r
  refine ⟨p, [v, w], rfl, SqT.of (hide_get q), rfl, v, [w], rfl, w, [], rfl, rfl, k _ ((R.put (s := .dat d) i ⟨_, rfl, x⟩).put (s := .dat e) j ⟨_, rfl, y⟩) ?_⟩
  show (((σ.set i (some v)).set j (some w)).set j none).set i none = (σ.set j none).set i none
  rw [List.set_set]
  by_cases h : i = j
  · subst h
    rw [List.set_set, List.set_set, List.set_set]
  · rw [List.set_comm _ _ h, List.set_set]
/-! ### texts -/
theorem opd_inSign {c : Nat} {z : Str} : OpD (fun x y H Q => ∃ (c : Nat) (z : Str), x = .str ⟨#[c]⟩ ∧ y = .str z ∧ Q (.bl (decide (c ∈ z.cps.toList))) H) (.str ⟨#[c]⟩) (.str z) (.bl (decide (c ∈ z.cps.toList))) := fun zz H v1 v2 lv x y Q k => by
  cases dat_str x; cases dat_str y
  exact ⟨c, z, rfl, rfl, k _ H (.refl _) (.bl _)⟩
theorem opd_notinSign {c : Nat} {z : Str} : OpD (fun x y H Q => ∃ (c : Nat) (z : Str), x = .str ⟨#[c]⟩ ∧ y = .str z ∧ Q (.bl (!decide (c ∈ z.cps.toList))) H) (.str ⟨#[c]⟩) (.str z) (.bl (!decide (c ∈ z.cps.toList))) := fun zz H v1 v2 lv x y Q k => by
  cases dat_str x; cases dat_str y
  exact ⟨c, z, rfl, rfl, k _ H (.refl _) (.bl _)⟩
theorem ev_join {K : PySem.W.Frag} {a : Str} {ys : List Str} (hz : (ys.map (·.length)).sum + ys.length * a.length ≤ 16777216) (ho : Ev F to ρ μ (.dat (.str a)) μ1) (he : Ev F te ρ μ1 (.dat (.lst (ys.map .str))) μ2) :
    Ev F (tM1 (fun x xs H Q => ∃ a p, ∃ ys : List Str, x = .str a ∧ xs = [.ref p] ∧ (SqL K H p (ys.map V.str) ∨ SqT K H p (ys.map V.str)) ∧ (ys.map (·.length)).sum + ys.length * a.length ≤ 16777216 ∧ Q (.str (Txt.join a ys)) H) to te) ρ μ (.dat (.str (Txt.join a ys))) μ2 := fun as σ H R Q k =>
  ho as σ H R _ fun v1 as1 H1 R1 p1 a1 x1 => by
    cases dat_str (dat_slot x1)
    refine ⟨⟨a, rfl⟩, he as1 σ H1 R1 _ fun v2 as2 H2 R2 p2 a2 x2 => ?_⟩
    obtain ⟨p, vs, rfl, e, q⟩ := dat_lst (dat_slot x2)
    have ev : vs = ys.map V.str := dats_flat q (flat_strs ys)
    subst ev
    exact ⟨a, p, ys, rfl, rfl, .inl (SqL.of (hide_get e)), hz, k _ as2 H2 R2 (p1.trans p2) (a1.trans a2) ⟨_, rfl, .str _⟩⟩
/-! ### slices -/
def EvO (F : Fm) (t : TO) (ρ : List Slot) (μ : List Cell) (i : Option Int) (μ' : List Cell) : Prop :=
  ∀ (as : List Addr) (σ : St) (H : Hp), Rel F ρ μ as σ H → ∀ Q : Option Int → Hp → Prop, (∀ as' H', Rel F ρ μ' as' σ H' → as <+: as' → Adv (hid μ as) (hid μ' as') H H' → Q i H') → t σ H Q
theorem evo_none : EvO F tNoPart ρ μ none μ := fun as σ H R Q k => k as H R (List.prefix_refl _) (.refl _ _)
theorem evo_some {i : Int} (h : Ev F te ρ μ (.dat (.int i)) μ1) : EvO F (tPart te) ρ μ (some i) μ1 := fun as σ H R Q k =>
  h as σ H R _ fun v as1 H1 R1 p1 a1 x1 => ⟨i, dat_int (dat_slot x1), k as1 H1 R1 p1 a1⟩
def cutD {α : Type} (xs : List α) (lo hi : Option Int) : List α := (xs.drop (HT.sIx xs.length 0 lo)).take (HT.sIx xs.length xs.length hi - HT.sIx xs.length 0 lo)
theorem Dats.drop_ {H : Hp} : ∀ (n : Nat) {vs : List V} {ds : List D}, Dats H vs ds → Dats H (vs.drop n) (ds.drop n)
  | 0, _, _, r => r
  | n + 1, _, _, .nil => .nil
  | n + 1, _, _, .cons _ r => Dats.drop_ n r
theorem Dats.take_ {H : Hp} : ∀ (n : Nat) {vs : List V} {ds : List D}, Dats H vs ds → Dats H (vs.take n) (ds.take n)
  | 0, _, _, _ => .nil
  | n + 1, _, _, .nil => .nil
  | n + 1, _, _, .cons x r => .cons x (Dats.take_ n r)
theorem Dats.cut {H : Hp} {vs : List V} {ds : List D} (r : Dats H vs ds) (lo hi : Option Int) : Dats H (cutV vs lo hi) (cutD ds lo hi) := by
  unfold cutV cutD
  rw [r.len]
  exact (r.drop_ _).take_ _
theorem ev_sliceL {K : PySem.W.Frag} {tl th : TO} {ds : List D} {lo hi : Option Int} (he : Ev F te ρ μ (.dat (.lst ds)) μ1) (hl : EvO F tl ρ μ1 lo μ2) (hh : EvO F th ρ μ2 hi μ3) : Ev F (tSl (rSlL K) te tl th) ρ μ (.dat (.lst (cutD ds lo hi))) μ3 := fun as σ H R Q k =>
  he as σ H R _ fun v as1 H1 R1 p1 a1 x1 => hl as1 σ H1 R1 _ fun as2 H2 R2 p2 a2 => hh as2 σ H2 R2 _ fun as3 H3 R3 p3 a3 => by
    obtain ⟨p, vs, rfl, e, q⟩ := dat_lst ((a2.trans a3).dat (dat_slot x1))
    exact ⟨p, vs, rfl, SqL.of (hide_get e), fun l nl => k _ as3 _ (R3.same (same_upd nl)) (p1.trans (p2.trans p3)) ((a1.trans (a2.trans a3)).trans (.same (same_upd nl))) ⟨_, rfl, .lst (hide_new R3.live nl) (Dats.upd nl (q.cut lo hi))⟩⟩
theorem ev_sliceT {K : PySem.W.Frag} {tl th : TO} {ds : List D} {lo hi : Option Int} (he : Ev F te ρ μ (.dat (.tup ds)) μ1) (hl : EvO F tl ρ μ1 lo μ2) (hh : EvO F th ρ μ2 hi μ3) : Ev F (tSl (rSlA K) te tl th) ρ μ (.dat (.tup (cutD ds lo hi))) μ3 := fun as σ H R Q k =>
  he as σ H R _ fun v as1 H1 R1 p1 a1 x1 => hl as1 σ H1 R1 _ fun as2 H2 R2 p2 a2 => hh as2 σ H2 R2 _ fun as3 H3 R3 p3 a3 => by
    have x3 := (a2.trans a3).dat (dat_slot x1)
    obtain ⟨p, vs, rfl, e, q⟩ := dat_tup x3
    refine ⟨p, vs, rfl, SqT.of (hide_get e), fun w => ?_, fun _ l nl => k _ as3 _ (R3.same (same_upd nl)) (p1.trans (p2.trans p3)) ((a1.trans (a2.trans a3)).trans (.same (same_upd nl))) ⟨_, rfl, .tup (hide_new R3.live nl) (Dats.upd nl (q.cut lo hi))⟩⟩
    have e2 : cutD ds lo hi = ds := by
      unfold cutD
      rw [q.len] at w
      rw [w.1, w.2]
      simp
    rw [e2] at k
    exact k _ as3 H3 R3 (p1.trans (p2.trans p3)) (a1.trans (a2.trans a3)) ⟨_, rfl, x3⟩
/-! ### truth -/
theorem Dats.isE {H : Hp} {vs : List V} {ds : List D} (r : Dats H vs ds) : vs.isEmpty = ds.isEmpty := by
  cases r <;> rfl
theorem truV_of {K : PySem.W.Frag} {z : List Addr} {H : Hp} : ∀ {v : V} {d : D} {b : Bool}, Dat (Hide z H) v d → truD d = some b → TruV K v H b
  | _, _, _, .non, h => by cases h; rfl
  | _, _, _, .bl b, h => by cases h; rfl
  | _, _, _, .lst e r, h => by cases h; exact .inl ⟨_, SqL.of (hide_get e), by rw [r.isE]⟩
  | _, _, _, .tup e r, h => by cases h; exact .inr (.inl ⟨_, SqT.of (hide_get e), by rw [r.isE]⟩)
  | _, _, _, .int _, h => by cases h
  | _, _, _, .str _, h => by cases h
  | _, _, _, .dic _ _, h => by cases h
  | _, _, _, .ins _ _, h => by cases h
theorem evt_truth {K : PySem.W.Frag} {d : D} {b : Bool} (h : truD d = some b) (ha : Ev F ta ρ μ (.dat d) μ1) : EvT F (fun σ H Q => ta σ H fun x H' => ∃ k, TruV K x H' k ∧ Q k H') ρ μ b μ1 := fun as σ H R Q k =>
  ha as σ H R _ fun v as1 H1 R1 p1 a1 x1 => ⟨b, truV_of (dat_slot x1) h, k as1 H1 R1 p1 a1⟩
theorem ev_notT {K : PySem.W.Frag} {d : D} {b : Bool} (h : truD d = some b) (ha : Ev F ta ρ μ (.dat d) μ1) : Ev F (tNotT K ta) ρ μ (.dat (.bl (!b))) μ1 := fun as σ H R Q k =>
  ha as σ H R _ fun v as1 H1 R1 p1 a1 x1 => ⟨b, truV_of (dat_slot x1) h, k _ as1 H1 R1 p1 a1 ⟨_, rfl, .bl _⟩⟩
/-! ### a chain of comparisons -/
theorem ev_chain {f f' : R2} {d1 d2 d3 : D} {b c : Bool} (hf : OpD f d1 d2 (.bl b)) (hf' : OpD f' d2 d3 (.bl c)) (ha : Ev F ta ρ μ (.dat d1) μ) (hb : Ev F tb ρ μ (.dat d2) μ) (hc : Ev F tc ρ μ (.dat d3) μ) : Ev F (tChain f f' ta tb tc) ρ μ (.dat (.bl (b && c))) μ := fun as σ H R Q k =>
  ha as σ H R _ fun v1 as1 H1 R1 p1 a1 x1 => hb as1 σ H1 R1 _ fun v2 as2 H2 R2 p2 a2 x2 =>
    hf _ H2 v1 v2 R2.live (a2.dat (dat_slot x1)) (dat_slot x2) _ fun v H3 s y => by
      refine ⟨b, dat_bl y, ?_⟩
      have R3 := R2.same s
      cases b with
      | true =>
        refine hc as2 σ H3 R3 _ fun v3 as4 H4 R4 p4 a4 x4 => ?_
        have a24 : Adv (hid μ as2) (hid μ as4) H2 H4 := (Adv.same s).trans a4
        exact hf' _ H4 v2 v3 R4.live (a24.dat (dat_slot x2)) (dat_slot x4) _ fun w H5 s5 y5 => k w as4 H5 (R4.same s5) (p1.trans (p2.trans p4)) ((a1.trans (a2.trans a24)).trans (.same s5)) ⟨w, rfl, y5⟩
      | false => exact k _ as2 H3 R3 (p1.trans p2) ((a1.trans a2).trans (.same s)) ⟨_, rfl, .bl _⟩
end
end Dl
end
section
set_option Elab.async false
set_option maxRecDepth 100000
set_option linter.all false
namespace Dl
open PySem L2
/-! ### sorted(xs, key=str), xs texts -/
def sortS (xs : List Str) : List Str := xs.mergeSort (fun a b => decide (a.cps.toList ≤ b.cps.toList))
def rSortedKS (K : PySem.W.Frag) : List V → List V → Hp → VK → Prop := fun vs zs H Q => ∃ (a : Addr) (xs : List Str), vs = [.ref a] ∧ zs = [.ty "str"] ∧ SqL K H a (xs.map V.str) ∧ ∀ p, H p = none → Q (.ref p) (upd H p (.lst ((sortS xs).map V.str)))
theorem each_strs : ∀ {xs : List Str} {us : List Value}, Vals (xs.map V.str) us → PySem.W.EachIs (fun v x => ∃ t, v = Value.str x t) us xs
  | [], _, .nil => .nil
  | x :: xs, _, .cons h r => .cons h (each_strs r)
theorem strs_each : ∀ {xs : List Str} {us : List Value}, PySem.W.EachIs (fun v x => ∃ t, v = Value.str x t) us xs → Vals (xs.map V.str) us
  | _, _, .nil => .nil
  | _, _, .cons h r => .cons h (strs_each r)
section
variable {X : Cx}
theorem cr_sortedKS (hu : X.A.units + 64 < cLine) : CallRK X (.builtin "sorted") [Str.ofString "key"] (rSortedKS X.K) := by
  intro pins s σ H vs zs us ws Q I r rz h
  obtain ⟨a, xs, rfl, rfl, hs, q⟩ := h
  obtain rfl := Vals.ref1 r
  obtain ⟨w1, rfl, e1⟩ := vals1 rz
  obtain rfl : w1 = Value.type "str" := e1
  obtain ⟨its, rv, hl, hz⟩ := I.list hs
  refine PySem.W.sorted_key_data (b := false) (f := .type "str") (R := fun v x => ∃ t, v = Value.str x t) (bs := xs) PyData.str hl.isList (each_strs rv) ?_ ?_ (by simpa using hz) ?_ (PyProof.Rows.ksk_s1 _ _) (fun _ => PyProof.Rows.ksk_l1 _ _) (fun x => rfl) ?_ ?_
  · intro d hd d' hd'
    obtain ⟨x, _, rfl⟩ := List.mem_map.mp hd
    obtain ⟨y, _, rfl⟩ := List.mem_map.mp hd'
    simp only [PySem.W.alike]
  · right
    intro d hd
    obtain ⟨x, _, rfl⟩ := List.mem_map.mp hd
    exact ⟨by simp, fun _ => by simp⟩
  · intro x hx
    have : (PyData.str x).depth = 0 := by simp [PyData.depth]
    omega
  · rintro v x ⟨t, rfl⟩ hx h tk hk
    refine PySem.P.str_of_str ⟨h, tk, rfl, fun b o e => e, ?_⟩
    exact Reads.str x t
  · intro out c h' tk hk nk hD hlen eo
    have e : xs.mergeSort (PySem.W.dataLe false PyData.str) = sortS xs := by
      unfold sortS
      rw [show (PyData.str : Str → PyData) = fun b => PyData.str (id b) from rfl, PySem.W.dataLe_str]
      rfl
    rw [e] at eo
    have np : H (s.heap.objs.size + 1) = none := I.hok.fresh (Nat.le_succ _)
    refine ⟨.ref _, upd H (s.heap.objs.size + 1) (.lst ((sortS xs).map V.str)), I.laid (t' := tk) hk (Nat.le_succ _) ⟨?_, out, c, strs_each eo, hD⟩, rfl, q _ np⟩
    rw [List.length_map, sortS, List.length_mergeSort]
    simpa using hz
theorem pe_sortedStr {p pos : Pos} {e : Expr} {k : Keyword} {te : TE} (hu : X.A.units + 64 < cLine) (hg : Gl X "sorted") (hm : X.mg "sorted" = none) (he : PA X [e] (tCons te tNil)) (hk : PK X [k] (tCons (tC (.ty "str")) tNil))
    (h1 : backTo pos (starEach [e] X.env) = (false, eval e X.env) :: backTo pos (starEach [] X.env) := by rfl) (hpl : (backTo pos (starEach [e] X.env)).any (·.1) = false := by rfl)
    (hall : (backToKw pos (keywordEach [k] X.env)).all (·.1.isSome) = true := by rfl) (hnone : (backToKw pos (keywordEach [k] X.env)).any (·.1.isNone) = false := by rfl) (hks : (backToKw pos (keywordEach [k] X.env)).filterMap (·.1) = [Str.ofString "key"] := by rfl) :
    PE X (.Call (.Name "sorted" p) [e] [k] pos) (tCKw (rSortedKS X.K) (tCons te tNil) (tCons (tC (.ty "str")) tNil)) :=
  pe_callBK (cr_sortedKS hu) hg hm (by decide +kernel) he hk (by decide) (by decide) h1 hpl hall hnone hks
end
section
variable {F : Fm} {ρ : List Slot} {μ μ1 : List Cell} {te : TE}
theorem ev_sortedStr {K : PySem.W.Frag} {xs : List Str} (h : Ev F te ρ μ (.dat (.lst (xs.map .str))) μ1) : Ev F (tCKw (rSortedKS K) (tCons te tNil) (tCons (tC (.ty "str")) tNil)) ρ μ (.dat (.lst ((sortS xs).map .str))) μ1 := fun as σ H R Q k =>
  h as σ H R _ fun v as1 H1 R1 p1 a1 x1 => by
    obtain ⟨p, vs, rfl, e, q⟩ := dat_lst (dat_slot x1)
    have ev : vs = xs.map V.str := dats_flat q (flat_strs xs)
    subst ev
    refine ⟨p, xs, rfl, rfl, SqL.of (hide_get e), fun l nl => k _ as1 _ (R1.same (same_upd nl)) p1 (a1.trans (.same (same_upd nl))) ⟨_, rfl, .lst (hide_new R1.live nl) ?_⟩⟩
    have : ∀ ys : List Str, Dats (Hide (hid μ1 as1 ++ F.z) (upd H1 l (.lst ((sortS xs).map V.str)))) (ys.map V.str) (ys.map D.str) := fun ys => by
      induction ys with
      | nil => exact .nil
      | cons y ys ih => exact .cons (.str y) ih
    exact this _
end
end Dl
end
section
set_option Elab.async false
set_option maxRecDepth 100000
set_option linter.all false
namespace Dl
open PySem L2
/-! ### repr of data -/
mutual
def pyD : D → Option PyData
  | .non => some .none
  | .bl b => some (.bool b)
  | .int i => some (.int i)
  | .str x => some (.str x)
  | .lst ds => (pyDs ds).map .list
  | .tup ds => (pyDs ds).map .tuple
  | .dic _ => none
  | .ins _ _ => none
def pyDs : List D → Option (List PyData)
  | [] => some []
  | d :: ds => match pyD d, pyDs ds with
    | some p, some ps => some (p :: ps)
    | _, _ => none
end
mutual
theorem Dat.dp {K : PySem.W.Frag} {h : List Addr} {H : Hp} : ∀ {v : V} {d : D} {p : PyData}, Dat (Hide h H) v d → pyD d = some p → Dp K H v p
  | _, _, _, .non, e => by simp only [pyD] at e; cases e; exact .non
  | _, _, _, .bl b, e => by simp only [pyD] at e; cases e; exact .bl b
  | _, _, _, .int i, e => by simp only [pyD] at e; cases e; exact .int i
  | _, _, _, .str x, e => by simp only [pyD] at e; cases e; exact .str x
  | _, _, _, @Dat.lst _ a vs ds q r, e => by
    simp only [pyD] at e
    cases h : pyDs ds with
    | none => rw [h] at e; cases e
    | some ps =>
      rw [h] at e
      cases e
      exact .lst (SqL.of (hide_get q)) (Dats.dp r h)
  | _, _, _, @Dat.tup _ a vs ds q r, e => by
    simp only [pyD] at e
    cases h : pyDs ds with
    | none => rw [h] at e; cases e
    | some ps =>
      rw [h] at e
      cases e
      exact .tup (SqT.of (hide_get q)) (Dats.dp r h)
  | _, _, _, .dic _ _, e => by simp only [pyD] at e; cases e
  | _, _, _, .ins _ _, e => by simp only [pyD] at e; cases e
theorem Dats.dp {K : PySem.W.Frag} {h : List Addr} {H : Hp} : ∀ {vs : List V} {ds : List D} {ps : List PyData}, Dats (Hide h H) vs ds → pyDs ds = some ps → DpAll K H vs ps
  | _, _, _, .nil, e => by simp only [pyDs] at e; cases e; exact .nil
  | _, _, _, @Dats.cons _ v d vs ds x r, e => by
    simp only [pyDs] at e
    cases h1 : pyD d with
    | none => rw [h1] at e; cases e
    | some p =>
      cases h2 : pyDs ds with
      | none => rw [h1, h2] at e; cases e
      | some ps =>
        rw [h1, h2] at e
        cases e
        exact .cons (Dat.dp x h1) (Dats.dp r h2)
end
def rReprD (K : PySem.W.Frag) : List V → Hp → VK → Prop := fun xs H Q => ∃ (a : Addr) (p : PyData), xs = [.ref a] ∧ Dp K H (.ref a) p ∧ p.showable = true ∧ p.hasDict = false ∧ p.depth ≤ 40 ∧ p.shown.length ≤ sizeLine ∧ Q (.str p.shown) H
theorem call_reprD {X : Cx} (hg : X.A.guards = some []) (hu : X.A.units + 64 < cLine) : CallR X (.builtin "repr") (rReprD X.K) := by
  intro pins s σ H xs us Q I r h
  obtain ⟨a, p, rfl, d, h1, h2, h3, h4, q⟩ := h
  obtain rfl := Vals.ref1 r
  obtain ⟨as, rd⟩ := Dp.reads I p (.ref a) (.ref a) d rfl
  exact repr_of_reads' rd h1 (fun e => by rw [h2] at e; cases e) hg (by omega) (fun b o e => e) (fun h' u tk hk => ⟨.str _, H, I.kept hk, ⟨_, rfl⟩, q⟩) h4
section
variable {F : Fm} {ρ : List Slot} {μ μ1 : List Cell} {te : TE}
theorem ev_repr {K : PySem.W.Frag} {d : D} {p : PyData} (hl : ∃ ds, d = .lst ds ∨ d = .tup ds) (hp : pyD d = some p) (h1 : p.showable = true) (h2 : p.hasDict = false) (h3 : p.depth ≤ 40) (h4 : p.shown.length ≤ sizeLine) (h : Ev F te ρ μ (.dat d) μ1) :
    Ev F (tCB (rReprD K) (tCons te tNil)) ρ μ (.dat (.str p.shown)) μ1 := fun as σ H R Q k =>
  h as σ H R _ fun v as1 H1 R1 p1 a1 x1 => by
    have x := dat_slot x1
    obtain ⟨a, rfl⟩ : ∃ a, v = .ref a := by
      obtain ⟨ds, rfl | rfl⟩ := hl
      · obtain ⟨a, _, rfl, _⟩ := dat_lst x; exact ⟨a, rfl⟩
      · obtain ⟨a, _, rfl, _⟩ := dat_tup x; exact ⟨a, rfl⟩
    exact ⟨a, p, rfl, x.dp hp, h1, h2, h3, h4, k _ as1 H1 R1 p1 a1 ⟨_, rfl, .str _⟩⟩
end
/-! ### defs that are called where nothing is being shown or compared -/
structure FnG (P : Program) (w : World) (K : PySem.W.Frag) (mg : Str → Option Value) (base : Heap) (k : Nat) (f : Addr) (fd : FuncData) (ps : List Str) (sp : Sp) : Prop where
  len : ∀ vs H Q, sp vs H Q E0 → vs.length = ps.length
  run : ∀ (A : Around) (outer : List Env) (s : Shared) (H : Hp) (args : Args) (us : List Value) (vs : List V) (Q : VK), A.guards = some [] → Room k A → Env0 P w K mg base A outer s H → BindsTo s fd args (ps.zip us) → Vals vs us → sp vs H Q E0 →
    codeAny (model P w) A (.call (.ref f) args) (CR CX0 outer P w H s Q E0) s
theorem fng_of {P : Program} {w : World} {K : PySem.W.Frag} {mg : Str → Option Value} {base : Heap} {x qual : Str} {st : Stmt} {f : Addr} {fd : FuncData} {N ps : List Str} {k : Nat} {sp : Sp} (Fd : C8.Fun K x qual st f fd) (S : FnScope N ps (C8.fnScope st)) (len : ∀ vs H Q, sp vs H Q E0 → vs.length = ps.length)
    (body : ∀ (cdv : Value) (A : Around) (outer : List Env) (s : Shared) (H : Hp) (vs : List V) (Q : VK), A.guards = some [] → Room k (A.deeper (PyProof.Rows.envOfC qual (C8.fnScope st) s.heap.objs.size f cdv)) → sp vs H Q E0 →
      ∃ t, PSs (cxOf CX0 P w K mg base N qual (C8.fnScope st) f cdv A outer s H E0).nox (C8.fnBody st) t ∧ t { nx := fun _ H' => Q .non H', rt := Q } (L2.start N vs) H) : FnG P w K mg base (k + 1) f fd ps sp := by
  obtain ⟨oc, od, dV, kV, doc, pm, an, cdv, ct, osl, rfl, lk, hcd⟩ := Fd.ex
  refine ⟨len, fun A outer s H args us vs Q hg hr e0 hb rv h => ?_⟩
  have eqlen := len vs H Q h
  have keepS := fun b o (e : base.get? b = some o) => (e0.bs b o e).1
  have inK : K.In s.heap := e0.mod.kin.keeps keepS
  have noLim : s.heap.NoLimit := e0.mod.nolimit.keeps keepS
  have kinds : ∀ y ∈ ps.zip us, (C8.fnScope st).names.lookup y.1 = some .local ∨ ((C8.fnScope st).names.lookup y.1 = some .cell ∧ ((cellsFrom (s.heap.objs.size + 1) (C8.fnScope st).names []).lookup y.1).isSome = true) := by
    rintro ⟨nm, val⟩ my
    exact (S.par nm (List.of_mem_zip my).1).imp id fun c => ⟨c, PySem.W.cellsFrom_some _ _ _ (.inl c)⟩
  refine codeAny_call_function hr.depth (inK _ _ lk) rfl S.co S.gen rfl (PySem.W.codeRec_of inK hcd) (hb _ _ _ _
    (wpAny_newFunctionEnv_cells S.kind kinds fun env ee s1 ic => ?_))
  subst ee
  refine ⟨noLim.keeps ic.toInCall.keep, codeAny_func ?_⟩
  obtain ⟨t, tOk, tHolds⟩ := body cdv A outer s H vs Q hg (hr.deeper _) h
  have I : Inv (cxOf CX0 P w K mg base N qual (C8.fnScope st) f cdv A outer s H E0) [] (L2.start N vs) H s1 := inv_start S hr.hd e0 eqlen rv ic
  have back : ∀ {σ2 : St} {H2 : Hp} {v : V} {u : Value} {s2 : Shared}, Inv (cxOf CX0 P w K mg base N qual (C8.fnScope st) f cdv A outer s H E0) [] σ2 H2 s2 → RelV v u → Q v H2 → CE outer P w H s Q u s2 := by
    intro σ2 H2 v u s2 J rel qv
    exact ⟨v, H2, J.os, J.bare, J.base, J.hok, rel, qv⟩
  refine wpAny_mono (tOk.nox.run [] s1 (L2.start N vs) H _ I tHolds) (fun fl s2 hs => ?_) (fun e s2 hs => hs)
  cases fl with
  | next => obtain ⟨σ2, H2, J, qv⟩ := hs; exact back (v := V.non) (u := Value.none) J rfl qv
  | ret u => obtain ⟨v, σ2, H2, J, rel, qv⟩ := hs; exact back J rel qv
  | brk => exact hs.elim fun _ x => x.elim fun _ y => y.2.elim
  | cont => exact hs.elim fun _ x => x.elim fun _ y => y.2.elim
/-- a def that may be called by its name where nothing is being shown -/
structure CalG (P : Program) (w : World) (K : PySem.W.Frag) (mg : Str → Option Value) (base : Heap) (k : Nat) (x : Str) (sp : Sp) : Prop where
  ex : ∃ (f : Addr) (fd : FuncData) (ps : List Str), FnG P w K mg base k f fd ps sp ∧ mg x = some (.ref f) ∧ PySem.W.keepIn K (.ref f) = true ∧ Binds K fd ps []
section
variable {X : Cx} {k j : Nat} {x : Str} {sp : Sp} {p pos : Pos} {e : Expr} {es : List Expr} {t : TA}
theorem pe_g (c : CalG X.prog X.w X.K X.mg X.base k x sp) (hgd : X.A.guards = some []) (hr : Room j X.A) (hk : k ≤ j) (hg : Gl X x) (ha : PA X (e :: es) t)
    (hdb : (x == ("__debug__" : Str)) = false := by decide) (he : starEach (e :: es) X.env = (false, eval e X.env) :: starEach es X.env := by rfl) (hpl : (backTo pos (starEach es X.env)).any (·.1) = false := by rfl) :
    PE X (.Call (.Name x p) (e :: es) [] pos) (tCall sp [] E0 t) := by
  obtain ⟨f, fd, ps, Fg, nm, kp, bd⟩ := c.ex
  refine ⟨fun pins s σ H Q I hyp => wpAny_Call_Name_kw (ld_glob I hg nm ?_ hdb)⟩
  refine PySem.W.callWith_K (h₀ := X.base) I.ok.mod.kin kp (thn (ha.run pos pins s σ H _ I hyp) ?_) he hpl
  rintro us s1 ⟨vs, H1, I1, rel, hq⟩
  rw [List.append_nil] at hq
  have el : us.length = ps.length := by rw [← rel.length]; exact Fg.len _ _ _ hq
  have bt := bd s1 us I1.kIn (by rw [List.append_nil]; exact el)
  rw [List.append_nil] at bt
  refine ⟨I1.kIn, wpAny_call (codeAny_mono (Fg.run X.A X.stack s1 H1 ⟨us, []⟩ us vs Q hgd (hr.mono hk) I1.env0 bt rel hq) fun res s2 hres => ?_)⟩
  match res, hres with
  | .ok (.ret u), hres => exact I1.after hres
  | .ok .next, hres => exact hres.elim
  | .ok .brk, hres => exact hres.elim
  | .ok .cont, hres => exact hres.elim
  | .error e, hres => exact hres.elim
end
end Dl
end
section
set_option Elab.async false
set_option maxRecDepth 100000
set_option linter.all false
namespace Dl
open PySem L2 PyProof.Rows
/-! ### the law's own call -/
/-- the law: a list of at most 63 ints is handed in, True comes out -/
def spLawG (K : PySem.W.Frag) : Sp := fun vs H Q _ => ∃ (a : Addr) (ns : List Int), vs = [.ref a] ∧ SqL K H a (ns.map V.int) ∧ ns.length ≤ 63 ∧ ∀ H', Q (.bl true) H'
section
variable {P : Program} {w : World} {K : PySem.W.Frag} {mg mb : Str → Option Value} {k : Nat} {fa a : Addr} {fd : FuncData} {x : Str} {s1 : Shared} {vs : List Value} {ns : List Int}
/-- at an abstract heap that tracks the script at most -/
theorem law_at (H : Hp) (sees : ∀ b, H b = none ∨ (b = a ∧ ∃ o xs, H b = some (.frz o (.lst xs)))) (notK : H a ≠ none → K.lookup a = none)
    (hS : SqL K H a (ns.map V.int)) (ok : HOk P w H s1.heap) (inK : K.In s1.heap) (main : s1.heap.Ns mainGlobals mg) (blt : s1.heap.Ns builtinsNs mb) (std : ∀ y : Str, y ≠ "__name__" → mb y = bootBuiltins y) (noLim : s1.heap.NoLimit) (noGen : s1.gens = #[])
    (obj : s1.heap.get? a = some { cls := .type "list", data := .seq vs.toArray }) (room : Room k callerA) (small : ns.length ≤ 63)
    (G : ∀ base : Heap, K.In base → base.Ns mainGlobals mg → FnG P w K mg base k fa fd [x] (spLawG K)) (bind : ∀ (s : Shared) (u : Value), BindsTo s fd ⟨[u], []⟩ [(x, u)]) :
    codeAny (model P w) callerA (.call (.ref fa) ⟨[.ref a], []⟩) (fun r s' => r = .ok (.ret (.bool true)) ∧ OldK s1.heap s'.heap ∧ s'.os = s1.os ∧ AllBare s'.gens) s1 := by
  have dictFree : ∀ {b : Addr} {o : Obj} {es : Array DictEntry} {ep : Nat}, s1.heap.get? b = some o → o.data = .dict es ep → H b = none := by
    intro b o es ep e d
    rcases sees b with q | ⟨rfl, _⟩
    · exact q
    · rw [obj] at e
      cases e
      exact nomatch (show Data.seq vs.toArray _ = Data.dict es ep from d)
  have keepNs : ∀ {b : Addr} {m : Str → Option Value}, s1.heap.Ns b m → (hidT s1.heap H).Ns b m := by
    rintro b m ⟨o, es, ep, e, d, rest⟩
    exact ⟨o, es, ep, hidT_get e (dictFree e d), d, rest⟩
  have keepK : K.In (hidT s1.heap H) := by
    intro b o e
    refine hidT_get (inK b o e) ?_
    rcases sees b with q | ⟨rfl, q⟩
    · exact q
    · have nn : H b ≠ none := by obtain ⟨o', xs, q⟩ := q; rw [q]; simp
      rw [notK nn] at e
      cases e
  obtain ⟨mc, l1, l2⟩ := noLim
  have env : Env0 P w K mg (hidT s1.heap H) callerA [] s1 H :=
    { frames := rfl, mod := ⟨keepK, keepNs main, ⟨mb, keepNs blt, std⟩, ⟨mc, keepNs l1, l2⟩⟩, bs := fun b o e => of_hidT e, bsz := Nat.le_of_eq (hidT_size _ _), funs := trivial, frf := fun b m => (List.not_mem_nil m).elim, hok := ok, bare := .of_eq noGen }
  refine codeAny_mono ((G _ keepK (keepNs main)).run callerA [] s1 H ⟨[.ref a], []⟩ [.ref a] [.ref a] (fun v _ => v = .bl true) rfl room env (bind s1 (.ref a)) (.cons rfl .nil) ⟨a, ns, rfl, hS, small, fun _ => rfl⟩) fun res s2 hres => ?_
  match res, hres with
  | .ok .next, hres => exact hres.elim
  | .ok .brk, hres => exact hres.elim
  | .ok .cont, hres => exact hres.elim
  | .error e, hres => exact hres.elim
  | .ok (.ret u), ⟨v, H2, os, bare, un, ok2, rel, eq⟩ =>
    have eq : v = .bl true := eq
    subst eq
    obtain rfl : u = Value.bool true := rel
    refine ⟨rfl, OldK.of_keep fun b o e => ?_, os, bare⟩
    rcases sees b with q | ⟨rfl, ob, xs, q⟩
    · exact un.keep b o e q (fun m => (List.not_mem_nil m).elim) (fun m => (List.not_mem_nil m).elim)
    · obtain ⟨e1, _⟩ := ok b _ q
      obtain ⟨e2, _⟩ := ok2 b _ (un.frzs b ob _ q)
      rw [e] at e1
      cases e1
      exact e2
theorem law_run (inK : K.In s1.heap) (main : s1.heap.Ns mainGlobals mg) (blt : s1.heap.Ns builtinsNs mb) (std : ∀ y : Str, y ≠ "__name__" → mb y = bootBuiltins y) (noLim : s1.heap.NoLimit) (noGen : s1.gens = #[])
    (obj : s1.heap.get? a = some { cls := .type "list", data := .seq vs.toArray }) (are : IntsAre vs ns) (room : Room k callerA) (small : ns.length ≤ 63)
    (G : ∀ base : Heap, K.In base → base.Ns mainGlobals mg → FnG P w K mg base k fa fd [x] (spLawG K)) (bind : ∀ (s : Shared) (u : Value), BindsTo s fd ⟨[u], []⟩ [(x, u)]) :
    codeAny (model P w) callerA (.call (.ref fa) ⟨[.ref a], []⟩) (fun r s' => r = .ok (.ret (.bool true)) ∧ OldK s1.heap s'.heap ∧ s'.os = s1.os ∧ AllBare s'.gens) s1 := by
  have rel := vals_ints are
  have len := are.length
  have big : (63 : Nat) ≤ sizeLine := by decide
  cases hk : K.lookup a with
  | some o =>
    have e := inK a o hk
    rw [obj] at e
    cases e
    exact law_at (fun _ => none) (fun _ => .inl rfl) (fun n => absurd rfl n) (.inr ⟨_, vs.toArray, _, hk, rfl, rfl, rfl, by rw [List.size_toArray, len]; omega, by simpa using rel⟩) (fun b u z => nomatch (show (none : Option HO) = some u from z)) inK main blt std noLim noGen obj room small G bind
  | none =>
    let H : Hp := fun b => if b = a then some (.frz { cls := .type "list", data := .seq vs.toArray } (.lst (ns.map V.int))) else none
    have at_a : H a = some (.frz { cls := .type "list", data := .seq vs.toArray } (.lst (ns.map V.int))) := if_pos rfl
    have off : ∀ b, b ≠ a → H b = none := fun b n => if_neg n
    refine law_at H (fun b => ?_) (fun _ => hk) (.inl (.inr ⟨_, at_a⟩)) (fun b u z => ?_) inK main blt std noLim noGen obj room small G bind
    · by_cases e : b = a
      · subst e; exact .inr ⟨rfl, _, _, at_a⟩
      · exact .inl (off b e)
    · by_cases e : b = a
      · subst e
        rw [at_a] at z
        cases z
        exact ⟨obj, by rw [List.length_map]; omega, vs, _, rel, obj⟩
      · rw [off b e] at z; cases z
end
/-- what k_head leaves of the law's own call -/
theorem walk_g {l : PySem.W.OpenLaw} {k : Nat} {q : Program} {loose : List Str} {XP : (Str → Option Value) → Heap → Prop} {YP : World → Heap → Prop} {d : DefRec} {K : Params → PySem.W.Frag} {x : Str}
    (hn : l.most = some 63) (hdf : d.params.defaults = []) (room : Room k callerA) (inY : ∀ (w : World) (h : Heap), YP w h → (K w.params).In h)
    (F : ∀ (w : World) (mg : Str → Option Value) (fa : Addr) (h : Heap), (K w.params).In h → h.Ns mainGlobals mg → mg d.name = some (.ref fa) →
      ∃ fd : FuncData, (∀ (s : Shared) (u : Value), BindsTo s fd ⟨[u], []⟩ [(x, u)]) ∧ ∀ base : Heap, (K w.params).In base → base.Ns mainGlobals mg → FnG l.prog w (K w.params) mg base k fa fd [x] (spLawG (K w.params))) :
    PySem.W.WalkO q loose XP YP l.row.toRowW d [] (fun f vs => PySem.call f vs) := by
  refine Att.attach_call hn hdf ?_
  intro w s0 s1 mg mb fa o pm cd doc a vs ns gr Y ho hd hcd hmg obj are small noGen
  have inK := inY w _ Y
  obtain ⟨fd, bind, G⟩ := F w mg fa _ inK gr.T.g hmg
  exact law_run inK gr.T.g gr.T.b gr.T.builtins gr.T.nolimit noGen obj are room small G bind
end Dl
end
section
set_option Elab.async false
set_option maxRecDepth 100000
set_option linter.all false
namespace Dl
open PySem L2
/-! ### slots forgotten -/
abbrev Weak : List Slot → List Slot → Prop := Paired fun a b => b = a ∨ b = .un
section
variable {F : Fm} {ρ ρ1 ρ2 : List Slot} {μ μ1 : List Cell} {o : Out} {ts : TS} {te : TE} {tt : TT} {r : Slot}
theorem Weak.slots {h as : List Addr} {H : Hp} : ∀ {ρ ρ2 : List Slot} {σ : St}, Weak ρ ρ2 → Paired (SlotOk h as H) ρ σ → Paired (SlotOk h as H) ρ2 σ
  | _, _, _, .nil, .nil => .nil
  | _, _, _, .cons e w, .cons x r => by
    rcases e with rfl | rfl
    · exact .cons x (Weak.slots w r)
    · exact .cons trivial (Weak.slots w r)
theorem Rel.weak {as : List Addr} {σ : St} {H : Hp} (R : Rel F ρ μ as σ H) (w : Weak ρ ρ2) : Rel F ρ2 μ as σ H := { R with slots := w.slots R.slots }
theorem ws_weak (h : Ws F ts ρ μ (.nx ρ1 μ1)) (w : Weak ρ1 ρ2) : Ws F ts ρ μ (.nx ρ2 μ1) := fun as σ H R E k =>
  h as σ H R E fun as' σ' H' f => k as' σ' H' ⟨f.rel.weak w, f.pre, f.adv⟩
theorem ws_forget (w : Weak ρ ρ2) (h : Ws F ts ρ2 μ o) : Ws F ts ρ μ o := fun as σ H R E k => h as σ H (R.weak w) E k
/-- a fact about cells of the own list that is read as data only -/
theorem ws_free {k : Nat} {i : Nat} {ds : List D} (hi : ρ[i]? = some (.cell k)) (hk : μ[k]? = some (.lst ds)) (h : Ws F ts (ρ.set i (.dat (.lst ds))) (μ.set k .dead) o) : Ws F ts ρ μ o := fun as σ H R E kk => by
  obtain ⟨so, e, x⟩ := R.slot hi
  obtain ⟨p, hp, q⟩ := x
  subst q
  obtain ⟨q, hq, vs, el, xl⟩ := R.cell hk
  rw [hp] at hq
  cases hq
  obtain ⟨Rk, ak, np⟩ := R.kill hk rfl hp
  have R2 : Rel F (ρ.set i (.dat (.lst ds))) (μ.set k .dead) as (σ.set i (some (.ref p))) H := Rk.put i ⟨_, rfl, .lst (by rw [hide_out np]; exact el) (ak.dats xl)⟩
  have e2 : σ.set i (some (.ref p)) = σ := by
    have hlt := (List.getElem?_eq_some_iff.mp e).1
    have := (List.getElem?_eq_some_iff.mp e).2
    rw [← this, List.set_getElem_self]
  rw [e2] at R2
  exact h as σ H R2 E (kk.back (List.prefix_refl _) ak)
end
end Dl
end
section
set_option Elab.async false
set_option maxRecDepth 100000
set_option linter.all false
namespace Dl
open PySem L2
/-! ### the same rules, the written part named (in a comprehension no term may speak of the block) -/
section
variable {X : Cx} {K : PySem.W.Frag} (e : X.K = K)
include e
theorem k_ixL : IxR X (rIxL K) := by subst e; exact ix_list
theorem k_ixT : IxR X (rIxT K) := by subst e; exact ix_tup
theorem k_in : OpR X (compareOp .In) (rIn K false) := by subst e; exact op_in_seq
theorem k_notIn : OpR X (compareOp .NotIn) (rIn K true) := by subst e; exact op_notIn_seq
theorem k_len : CallR X (.builtin "len") (fun xs H Q => ∃ p ys, xs = [.ref p] ∧ (SqL K H p ys ∨ SqT K H p ys) ∧ Q (.int ys.length) H) := by subst e; exact call_len_seq
theorem k_list : CallR X (.type "list") (fun xs H Q => ∃ p ys, xs = [.ref p] ∧ (SqL K H p ys ∨ SqT K H p ys) ∧ ∀ l, H l = none → Q (.ref l) (upd H l (.lst ys))) := by subst e; exact call_list_of
theorem k_tuple : CallR X (.type "tuple") (fun xs H Q => ∃ p ys, xs = [.ref p] ∧ ((SqL K H p ys ∧ ∀ l, H l = none → Q (.ref l) (upd H l (.tup ys))) ∨ (SqT K H p ys ∧ Q (.ref p) H))) := by subst e; exact call_tuple_of
theorem k_all (hc : X.calm = true) : CallR X (.builtin "all") (rAll K) := by subst e; exact cr_all hc
theorem k_any (hc : X.calm = true) : CallR X (.builtin "any") (rAny K) := by subst e; exact cr_any hc
theorem k_repr (hg : X.A.guards = some []) (hu : X.A.units + 64 < cLine) : CallR X (.builtin "repr") (rReprD K) := by subst e; exact call_reprD hg hu
theorem k_slL : SlR X (rSlL K) := by subst e; exact sl_list
theorem k_slT : SlR X (rSlA K) := by subst e; exact sl_tupA
theorem k_fld {o : Expr} {f : Str} {pos : Pos} {ta : TE} (h : PE X o ta) (hb : attributeBase o f X.env (eval o X.env) = eval o X.env := by rfl) : PE X (.Attribute o f pos) (tFld K ta f) := by subst e; exact pe_fld h hb
theorem k_ilist {tg l : Expr} {tl : TE} (h : PE X l tl) : PI X tg l (iList K tl) := by subst e; exact pi_list h
theorem k_itup {tg l : Expr} {tl : TE} (h : PE X l tl) : PI X tg l (iTup K tl) := by subst e; exact pi_tup h
theorem k_notT {a : Expr} {pos : Pos} {ta : TE} (h : PE X a ta) : PE X (.UnaryOp .Not a pos) (tNotT K ta) := by subst e; exact pe_notT h
theorem k_truth {a : Expr} {ta : TE} (h : PE X a ta) (he : ∀ whole, isTrue a X.env whole = (do let v ← whole; standAt a.pos; holding [v] (truthy v)) := by intro _; rfl) : PT X a (fun σ H Q => ta σ H fun x H' => ∃ k, TruV K x H' k ∧ Q k H') := by subst e; exact pt_truth h he
end
theorem ws_forN {F : Fm} {ρ : List Slot} {μ μ1 : List Cell} {wi : TI} {g : TG} {tb : TS} (n : Nat) (vs : List Nat) {items : List D} (S : Nat → List Slot × List Cell) (hi : EvI F wi ρ μ items μ1) (h0 : S 0 = (ρ, μ1)) (hn : items.length = n)
    (turn : ∀ i d, items[i]? = some d → ∃ ρ', EvG F g vs (S i).1 (S i).2 d ρ' ∧ (Ws F tb ρ' (S i).2 (.nx (S (i + 1)).1 (S (i + 1)).2) ∨ Ws F tb ρ' (S i).2 (.ct (S (i + 1)).1 (S (i + 1)).2))) :
    Ws F (tFor wi g tb) ρ μ (.nx (S n).1 (S n).2) := by
  have h := ws_for hi S h0 turn
  rw [hn] at h
  exact h
theorem all_ints {bs : List Bool} : bs.all id = true ↔ ∀ b ∈ bs, b = true := by simp [List.all_eq_true]
end Dl
end
section
set_option Elab.async false
set_option maxRecDepth 100000
set_option linter.all false
namespace Dl
open PySem L2
section
variable {F : Fm} {ρ ρ1 ρ2 : List Slot} {μ μ1 μ2 μ3 : List Cell} {r r1 r2 : Slot} {rs : List Slot} {ta tb tc te tl : TE} {t : TA} {o o1 o2 : Out} {tt tu : TT} {ts us : TS} {g : TG}
theorem ev_eqm (h : Ev F te ρ μ r μ1) (e : μ1 = μ2) : Ev F te ρ μ r μ2 := by
  subst e
  exact h
theorem ev_eqd {d d' : D} (h : Ev F te ρ μ (.dat d) μ1) (e : d = d') : Ev F te ρ μ (.dat d') μ1 := by
  subst e
  exact h
theorem ev_tmu {b : Bool} (h : EvT F tt ρ μ b μ1) (e : μ1 = μ2) : EvT F tt ρ μ b μ2 := by
  subst e
  exact h
theorem ev_teq {b c : Bool} (h : EvT F tt ρ μ b μ1) (e : b = c) : EvT F tt ρ μ c μ1 := by
  subst e
  exact h
theorem ev_lcN {wi : TI} {vs : List Nat} {items : List D} (n : Nat) (hi : EvI F wi ρ μ items μ1) (hn : items.length = n) (hw : ∀ i ∈ vs, ρ[i]? = some .un) (hsz : n ≤ 1000000) (m : Nat → List Cell) (h0 : m 0 = μ1) (ys : Nat → List D) (hy0 : ys 0 = [])
    (turn : ∀ i d, items[i]? = some d → ∀ F', ∃ ρ', EvG F' g vs ρ (m i) d ρ' ∧ ∃ b m', EvT F' tt ρ' (m i) b m' ∧
      if b = true then ∃ y, Ev F' te ρ' m' (.dat y) (m (i + 1)) ∧ ys (i + 1) = ys i ++ [y] else m (i + 1) = m' ∧ ys (i + 1) = ys i) :
    Ev F (tLc wi g tt te vs) ρ μ (.dat (.lst (ys n))) (m n) := by
  subst hn
  exact ev_lc hi hw hsz m h0 ys hy0 turn
/-- what was hidden becomes the def's own cell -/
theorem Rel.own {as as0 : List Addr} {μ0 : List Cell} {σ : St} {H H0 : Hp} {L : Addr} {acc : List V} {ds : List D} (R : Rel { F with z := L :: F.z } ρ μ as σ H) (nL : H0 L = none) (Lz : L ∉ F.z) (BL : F.B L = none) (eL : H L = some (.lst acc))
    (da : Dats (Hide (hid μ as ++ L :: F.z) H) acc ds) (a : Adv (hid μ0 as0) (hid μ as) H0 H) : Rel F ρ (μ ++ [.lst ds]) (as ++ [L]) σ H ∧ Adv (hid μ0 as0) (hid (μ ++ [.lst ds]) (as ++ [L])) H0 H := by
  have eh : hid (μ ++ [.lst ds]) (as ++ [L]) = hid μ as ++ [L] := hid_snoc L rfl (pd_len R.cells)
  have ez : hid (μ ++ [.lst ds]) (as ++ [L]) ++ F.z = hid μ as ++ L :: F.z := by rw [eh, List.append_assoc]; rfl
  have hLas : L ∉ as := fun m => R.dj L m List.mem_cons_self
  refine ⟨{ cells := ?_, slots := ?_, nd := ?_, zl := fun b m => R.zl b (List.mem_cons_of_mem _ m), dj := ?_, base := R.base, pre := ?_, fresh := ?_, there := ?_ }, ⟨a.keep, fun b m => ?_⟩⟩
  · rw [ez]
    exact pd_snoc ⟨acc, eL, da⟩ (pd_imp R.cells fun c a r => CellOk.ext (List.prefix_append _ _) r)
  · rw [ez]
    exact pd_imp R.slots fun s o x => SlotOk.ext (List.prefix_append _ _) x
  · exact List.nodup_append.mpr ⟨R.nd, by simp, fun x hx y hy e => by
      rw [List.mem_singleton] at hy
      subst hy
      subst e
      exact hLas hx⟩
  · intro b m
    rcases List.mem_append.mp m with m | m
    · exact fun q => R.dj b m (List.mem_cons_of_mem _ q)
    · rw [List.mem_singleton] at m
      subst m
      exact Lz
  · have h : as.take F.ps.length = F.ps := R.pre
    have hl : F.ps.length ≤ as.length := by
      have := congrArg List.length h
      rw [List.length_take] at this
      omega
    rw [List.take_append_of_le_length hl]
    exact h
  · intro b m
    rcases List.mem_append.mp m with m | m
    · exact R.fresh b m
    · rw [List.mem_singleton] at m
      subst m
      exact .inr BL
  · intro b m
    rcases List.mem_append.mp m with m | m
    · exact R.there b m
    · rw [List.mem_singleton] at m
      subst m
      rw [eL]; simp
  · rw [eh] at m
    rcases List.mem_append.mp m with m | m
    · exact a.new b m
    · rw [List.mem_singleton] at m
      subst m
      exact .inr nL
/-- a comprehension whose list stays the def's own -/
theorem ev_lcO {wi : TI} {vs : List Nat} {items : List D} (n : Nat) (hi : EvI F wi ρ μ items μ1) (hn : items.length = n) (hw : ∀ i ∈ vs, ρ[i]? = some .un) (hsz : n ≤ 1000000) (m : Nat → List Cell) (h0 : m 0 = μ1) (ys : Nat → List D) (hy0 : ys 0 = [])
    (turn : ∀ i d, items[i]? = some d → ∀ F', ∃ ρ', EvG F' g vs ρ (m i) d ρ' ∧ ∃ b m', EvT F' tt ρ' (m i) b m' ∧
      if b = true then ∃ y, Ev F' te ρ' m' (.dat y) (m (i + 1)) ∧ ys (i + 1) = ys i ++ [y] else m (i + 1) = m' ∧ ys (i + 1) = ys i) (k : Nat) (hk : k = (m n).length) :
    Ev F (tLc wi g tt te vs) ρ μ (.cell k) (m n ++ [.lst (ys n)]) := fun as σ H R Q kk => by
  subst hn
  refine lc_core_at (hi as σ H) hw hsz m h0 ys hy0 turn R Q fun L acc as' H' nL Lz BL eL RR pp aa da => ?_
  obtain ⟨R2, a2⟩ := RR.own nL Lz BL eL da aa
  refine kk _ _ _ R2 (pp.trans (List.prefix_append _ _)) a2 ⟨L, ?_, rfl⟩
  subst hk
  rw [pd_len RR.cells]
  simp
/-- a comprehension that only reads, its list the def's own -/
theorem ev_lcFO {α : Type} {enc : α → D} {xs : List α} {p : α → Bool} {f : α → D} {ρ' : α → List Slot} {wi : TI} {vs : List Nat} (hi : EvI F wi ρ μ (xs.map enc) μ1) (hw : ∀ i ∈ vs, ρ[i]? = some .un) (hsz : xs.length ≤ 1000000)
    (hg : ∀ F' a, EvG F' g vs ρ μ1 (enc a) (ρ' a)) (ht : ∀ F' a, a ∈ xs → EvT F' tt (ρ' a) μ1 (p a) μ1) (he : ∀ F' a, a ∈ xs → p a = true → Ev F' te (ρ' a) μ1 (.dat (f a)) μ1) (k : Nat) (hk : k = μ1.length) :
    Ev F (tLc wi g tt te vs) ρ μ (.cell k) (μ1 ++ [.lst ((xs.filter p).map f)]) := by
  have h := ev_lcO xs.length hi (List.length_map _) hw hsz (fun _ => μ1) rfl (fmI p f xs) (by simp [fmI]) (fun i d hd F' => by
    rw [List.getElem?_map] at hd
    cases e : xs[i]? with
    | none => rw [e] at hd; cases hd
    | some a =>
      rw [e] at hd
      cases hd
      refine ⟨ρ' a, hg F' a, p a, μ1, ht F' a (List.mem_of_getElem? e), ?_⟩
      rw [fmI_succ p f e]
      by_cases hp : p a = true
      · rw [if_pos hp]
        refine ⟨f a, he F' a (List.mem_of_getElem? e) hp, ?_⟩
        rw [if_pos hp]
      · rw [if_neg hp]
        refine ⟨rfl, ?_⟩
        rw [if_neg hp, List.append_nil]) k hk
  rw [show fmI p f xs xs.length = (xs.filter p).map f by unfold fmI; rw [List.take_length]] at h
  exact h
/-- all([q for ..]) -/
theorem ev_allF {K : PySem.W.Frag} {α : Type} {enc : α → D} {xs : List α} {q : α → Bool} {ρ' : α → List Slot} {wi : TI} {vs : List Nat} (hi : EvI F wi ρ μ (xs.map enc) μ1) (hw : ∀ i ∈ vs, ρ[i]? = some .un) (hsz : xs.length ≤ 1000000)
    (hg : ∀ F' a, EvG F' g vs ρ μ1 (enc a) (ρ' a)) (he : ∀ F' a, a ∈ xs → Ev F' te (ρ' a) μ1 (.dat (.bl (q a))) μ1) : Ev F (tCB (rAll K) (tCons (tLc wi g tYes te vs) tNil)) ρ μ (.dat (.bl (xs.all q))) μ1 := by
  have h := ev_lcF (F := F) (tt := tYes) (p := fun _ => true) (f := fun a => D.bl (q a)) hi hw hsz hg (fun F' a _ => evt_yes) (fun F' a m _ => he F' a m)
  have e : D.lst ((xs.filter fun _ => true).map fun a => D.bl (q a)) = .lst ((xs.map q).map .bl) := by
    rw [List.filter_eq_self.mpr (fun _ _ => rfl), List.map_map]
    rfl
  have h2 := ev_cb (ds := [_]) (cd_all (K := K)) (eva_cons (ev_eqd h e) eva_nil)
  have e2 : (xs.map q).all id = xs.all q := by rw [List.all_map]; rfl
  rw [e2] at h2
  exact h2
/-- list(xs), the new list the def's own -/
theorem ev_listO {K : PySem.W.Frag} {ds : List D} {dl : D} (hl : dl = .lst ds ∨ dl = .tup ds) (ha : EvA F t ρ μ [.dat dl] μ1) (k : Nat) (hk : k = μ1.length) :
    Ev F (tCB (fun xs H Q => ∃ p ys, xs = [.ref p] ∧ (SqL K H p ys ∨ SqT K H p ys) ∧ ∀ l, H l = none → Q (.ref l) (upd H l (.lst ys))) t) ρ μ (.cell k) (μ1 ++ [.lst ds]) := fun as σ H R Q kk =>
  ha as σ H R _ fun vs as1 H1 R1 p1 a1 x1 => by
    cases x1 with
    | @cons _ v _ _ x tl =>
      cases tl
      have key : ∃ p ys, ([v] : List V) = [V.ref p] ∧ (SqL K H1 p ys ∨ SqT K H1 p ys) ∧ Dats (Hide (hid μ1 as1 ++ F.z) H1) ys ds := by
        rcases hl with rfl | rfl
        · obtain ⟨p, ys, rfl, e, q⟩ := dat_lst (dat_slot x)
          exact ⟨p, ys, rfl, .inl (SqL.of (hide_get e)), q⟩
        · obtain ⟨p, ys, rfl, e, q⟩ := dat_tup (dat_slot x)
          exact ⟨p, ys, rfl, .inr (SqT.of (hide_get e)), q⟩
      obtain ⟨p, ys, e, sq, q⟩ := key
      refine ⟨p, ys, e, sq, fun l nl => ?_⟩
      obtain ⟨R2, a2⟩ := R1.snoc (H' := upd H1 l (.lst ys)) (c := .lst ds) nl (same_upd nl) rfl fun h s => ⟨ys, upd_same, q.mono (.of s)⟩
      refine kk _ _ _ R2 (p1.trans (List.prefix_append _ _)) (a1.trans a2) ⟨l, ?_, rfl⟩
      subst hk
      rw [pd_len R1.cells]
      simp
/-- list(d), d a dict cell -/
theorem ev_listCK {n : Nat} {es : List (Key × D)} (ha : EvA F t ρ μ [.cell n] μ1) (hk : μ1[n]? = some (.dic es)) :
    Ev F (tCB (fun xs H Q => ∃ (a : Addr) (kvs : List (Key × V)), xs = [.ref a] ∧ Rd H a (.dK kvs) ∧ ∀ p, H p = none → Q (.ref p) (upd H p (.lst (kvs.map fun kv => kV kv.1)))) t) ρ μ (.dat (.lst (es.map fun e => keyD e.1))) μ1 := fun as σ H R Q kk =>
  ha as σ H R _ fun vs as1 H1 R1 p1 a1 x1 => by
    cases x1 with
    | cons x tl =>
      cases tl
      obtain ⟨p, hp, e⟩ := x
      cases e
      obtain ⟨q, hq, kvs, el, xl⟩ := R1.cell hk
      rw [hp] at hq
      cases hq
      refine ⟨p, kvs, rfl, .inl el, fun l nl => ?_⟩
      refine kk _ as1 _ (R1.same (same_upd nl)) p1 (a1.trans (.same (same_upd nl))) ⟨_, rfl, .lst (hide_new R1.live nl) ?_⟩
      have e1 : (kvs.map fun kv => kV kv.1) = (kvs.map (·.1)).map kV := by rw [List.map_map]; rfl
      have e2 : (es.map fun e => keyD e.1) = (es.map (·.1)).map keyD := by rw [List.map_map]; rfl
      rw [e1, e2, xl.keys]
      exact dats_keys _
/-- len of a dict cell etc.: pairs of a dict display -/
def EvPs (F : Fm) (trs : List (TE × TE)) (ρ : List Slot) (μ : List Cell) (es : List (Key × D)) (μ' : List Cell) : Prop :=
  ∀ (as : List Addr) (σ : St) (H : Hp), Rel F ρ μ as σ H → ∀ Q : List (V × V) → Hp → Prop,
    (∀ (kvs : List (Key × V)) (as' : List Addr) (H' : Hp), Rel F ρ μ' as' σ H' → as <+: as' → Adv (hid μ as) (hid μ' as') H H' → DatK (Hide (hid μ' as' ++ F.z) H') kvs es → Q (kvs.map fun kv => (kV kv.1, kv.2)) H') → tPairs trs σ H Q
theorem DatK.mono' {H H' : Hp} (g : Ge H H') : ∀ {kvs : List (Key × V)} {es : List (Key × D)}, DatK H kvs es → DatK H' kvs es := fun x => x.mono g
theorem evps_nil : EvPs F [] ρ μ [] μ := fun as σ H R Q k => k [] as H R (List.prefix_refl _) (.refl _ _) .nil
theorem evps_cons {trs : List (TE × TE)} {k : Key} {d : D} {es : List (Key × D)} (hk : Ev F ta ρ μ (.dat (keyD k)) μ1) (hv : Ev F tb ρ μ1 (.dat d) μ2) (hr : EvPs F trs ρ μ2 es μ3) : EvPs F ((ta, tb) :: trs) ρ μ ((k, d) :: es) μ3 := fun as σ H R Q kk =>
  hk as σ H R _ fun v1 as1 H1 R1 p1 a1 x1 => hv as1 σ H1 R1 _ fun v2 as2 H2 R2 p2 a2 x2 => hr as2 σ H2 R2 _ fun kvs as3 H3 R3 p3 a3 x3 => by
    cases dat_keyV (dat_slot x1)
    exact kk ((k, v2) :: kvs) as3 H3 R3 (p1.trans (p2.trans p3)) ((a1.trans a2).trans a3) (.cons (a3.dat (dat_slot x2)) x3)
def mergeD (es : List (Key × D)) : List (Key × D) → List (Key × D)
  | [] => es
  | e :: r => mergeD (putD es e.1 e.2) r
theorem DatK.merge {H : Hp} : ∀ {ks : List (Key × V)} {ds : List (Key × D)} {kvs : List (Key × V)} {es : List (Key × D)}, DatK H ks ds → DatK H kvs es → DatK H (mergeK kvs ks) (mergeD es ds)
  | _, _, _, _, .nil, x => x
  | _, _, kvs, es, @DatK.cons _ k v d ks ds y r, x => DatK.merge (kvs := putK kvs k v) (es := putD es k d) r (x.put y)
/-- {k: v, ..} -/
theorem ev_disp {trs : List (TE × TE)} {es : List (Key × D)} (h : ∀ F', EvPs F' trs ρ μ es μ1) (hz : es.length ≤ 15) : Ev F (tDisp trs) ρ μ (.dat (.dic (mergeD [] es))) μ1 := fun as σ H R Q k p np => by
  obtain ⟨RL, gL, BL, Lz⟩ := R.under (H' := upd H p (.dK [])) np (same_upd np) (by rw [upd_same]; simp)
  refine h _ as σ _ RL _ fun kvs as' H' R1 p1 a1 x1 => ?_
  have ep : H' p = some (.dK []) := a1.keep p _ (fun q => RL.dj p (hid_sub _ _ _ q) List.mem_cons_self) upd_same
  refine ⟨ep, kvs, rfl, by rw [x1.len]; exact hz, ?_⟩
  obtain ⟨R2, g2⟩ := R1.poke0 (p := p) (H' := upd H' p (.dK (mergeK [] kvs))) List.mem_cons_self BL (fun b u n e => by rw [upd_ne n]; exact e) (by rw [upd_same]; simp)
  obtain ⟨R3, g3, n3⟩ := R2.over Lz
  have a0 : Adv (hid μ as) (hid μ as) H (upd H p (.dK [])) := .same (same_upd np)
  have a2 : Adv (hid μ as) (hid μ1 as') H (upd H' p (.dK (mergeK [] kvs))) := by
    have a01 := a0.trans a1
    refine ⟨fun b u n e => ?_, a01.new⟩
    have hb : b ≠ p := fun q => by subst q; rw [np] at e; cases e
    rw [upd_ne hb]
    exact a01.keep b u n e
  refine k _ as' _ R3 p1 a2 ⟨_, rfl, .dic (.inl (by rw [hide_out n3]; exact upd_same)) ?_⟩
  exact DatK.merge ((x1.mono (.of g2)).mono (.of g3)) .nil
end
end Dl
end
section
set_option Elab.async false
set_option maxRecDepth 100000
set_option maxHeartbeats 4000000
set_option linter.all false
namespace Dl
open PySem L2
/-! ### names -/
def Pot.nth (p : Pot) (m : Nat) : Nat → Pot
  | 0 => p
  | i + 1 => (p.nth m i).next m
def alpha : Str := "abcdefghijklmnopqrstuvwxyz"
def suff : Str := "acegikmoqsuwybdf01234569"
def sign (z : Str) (i : Nat) : Str := ⟨#[z.cps.toList.getD i 0]⟩
def label (p : Pot) : Str := sign alpha ((p.next 3).draw 26) ++ Txt.join "" ((List.range (p.draw 3)).map fun i => sign suff ((((p.next 3).next 26).nth 24 i).draw 24))
def labelP (p : Pot) : Pot := ((p.next 3).next 26).nth 24 (p.draw 3)
def spare (l : Str) : List Str := [l] ++ (List.range 90).map fun (j : Nat) => l ++ (toString (10 + (j : Int)) : Str)
def pick (l : Str) (found taken : List Str) : Str := (((spare l).filter fun x => !decide (x ∈ found) && !decide (x ∈ taken))).headD ""
def namedS (taken : List Str) (p : Pot) : Nat → Pot × List Str
  | 0 => (p, [])
  | i + 1 => let s := namedS taken p i; (labelP s.1, s.2 ++ [pick (label s.1) s.2 taken])
theorem namedS_len (taken : List Str) (p : Pot) : ∀ n, (namedS taken p n).2.length = n
  | 0 => rfl
  | n + 1 => by
    show (_ ++ [_]).length = _
    rw [List.length_append, namedS_len taken p n]
    rfl

def suffixes : List Str := "" :: (List.range 90).map fun (j : Nat) => (toString (10 + (j : Int)) : Str)
theorem suffixes_nodup : suffixes.Nodup := by decide +kernel
theorem suffixes_len : ∀ x ∈ suffixes, x.length ≤ 2 := by decide +kernel
theorem str_add_inj {l a b : Str} (h : l ++ a = l ++ b) : a = b := by
  have h2 : l.cps ++ a.cps = l.cps ++ b.cps := congrArg Str.cps h
  have : a.cps = b.cps := by
    apply Array.ext'
    have := congrArg Array.toList h2
    simpa using this
  cases a; cases b; cases this; rfl
theorem str_ext {a b : Str} (h : a.cps = b.cps) : a = b := by cases a; cases b; cases h; rfl
theorem str_add_nil (l : Str) : l ++ ("" : Str) = l := str_ext (by
    show l.cps ++ #[] = l.cps
    simp)
theorem nodup_le {α : Type} [DecidableEq α] : ∀ {xs ys : List α}, xs.Nodup → (∀ x ∈ xs, x ∈ ys) → xs.length ≤ ys.length
  | [], _, _, _ => Nat.zero_le _
  | x :: xs, ys, h, s => by
    have h' := List.nodup_cons.mp h
    have hx : x ∈ ys := s x List.mem_cons_self
    have : xs.length ≤ (ys.erase x).length := nodup_le h'.2 fun y hy => by
      have hne : y ≠ x := fun e => h'.1 (e ▸ hy)
      exact (List.mem_erase_of_ne hne).mpr (s y (List.mem_cons_of_mem _ hy))
    rw [List.length_erase_of_mem hx] at this
    have : 0 < ys.length := List.length_pos_of_mem hx
    rw [List.length_cons]
    omega
theorem spare_eq (l : Str) : spare l = suffixes.map (l ++ ·) := by
  unfold spare suffixes
  rw [List.map_cons, str_add_nil, List.map_map]
  rfl
theorem nodup_map {α β : Type} {f : α → β} (hf : ∀ a b, f a = f b → a = b) : ∀ {xs : List α}, xs.Nodup → (xs.map f).Nodup
  | [], _ => List.nodup_nil
  | x :: xs, h => by
    have h' := List.nodup_cons.mp h
    rw [List.map_cons]
    refine List.nodup_cons.mpr ⟨fun hm => ?_, nodup_map hf h'.2⟩
    obtain ⟨y, hy, e⟩ := List.mem_map.mp hm
    exact h'.1 (hf _ _ e ▸ hy)
theorem spare_nodup (l : Str) : (spare l).Nodup := by
  rw [spare_eq]
  exact nodup_map (fun a b e => str_add_inj e) suffixes_nodup
theorem pick_spec {l : Str} {found taken : List Str} (h : found.length + taken.length < 91) : ∃ tl, (spare l).filter (fun x => !decide (x ∈ found) && !decide (x ∈ taken)) = pick l found taken :: tl := by
  unfold pick
  generalize e : (spare l).filter (fun x => !decide (x ∈ found) && !decide (x ∈ taken)) = fl
  cases fl with
  | cons a tl => exact ⟨tl, rfl⟩
  | nil =>
    exfalso
    have h1 : (spare l).length ≤ (found ++ taken).length := nodup_le (spare_nodup l) fun x hx => by
      have := List.filter_eq_nil_iff.mp e x hx
      by_cases h1 : x ∈ found
      · exact List.mem_append.mpr (.inl h1)
      · by_cases h2 : x ∈ taken
        · exact List.mem_append.mpr (.inr h2)
        · simp [h1, h2] at this
    rw [List.length_append] at h1
    have : (spare l).length = 91 := by rw [spare_eq, List.length_map]; decide
    omega
theorem sign_len (z : Str) (i : Nat) : (sign z i).length = 1 := rfl
theorem sum_ones : ∀ xs : List Str, (∀ a ∈ xs, a.length = 1) → (xs.map (·.length)).sum = xs.length
  | [], _ => rfl
  | x :: xs, h => by
    rw [List.map_cons, List.sum_cons, sum_ones xs fun a ha => h a (List.mem_cons_of_mem _ ha), h x List.mem_cons_self, List.length_cons, Nat.add_comm]
theorem label_len (p : Pot) : (label p).length ≤ 3 := by
  unfold label
  rw [strLen_append, sign_len]
  have : (Txt.join "" ((List.range (p.draw 3)).map fun i => sign suff ((((p.next 3).next 26).nth 24 i).draw 24))).length = p.draw 3 := by
    have h := PySem.W.KT.join_ones ((List.range (p.draw 3)).map fun i => sign suff ((((p.next 3).next 26).nth 24 i).draw 24)) (by
      intro a ha
      obtain ⟨i, _, rfl⟩ := List.mem_map.mp ha
      rfl)
    rw [List.length_map, List.length_range] at h
    exact h
  rw [this]
  have := p.draw_lt (m := 3) (by omega)
  omega
theorem spare_len {l x : Str} (h : x ∈ spare l) : x.length ≤ l.length + 2 := by
  rw [spare_eq] at h
  obtain ⟨y, hy, rfl⟩ := List.mem_map.mp h
  show (l ++ y).length ≤ _
  rw [strLen_append]
  have := suffixes_len y hy
  omega
inductive R_named : Pot → List D → D → Pot → Prop
  | mk (p : Pot) (n : Nat) (taken : List Str) (h : n + taken.length ≤ 60) : R_named p [.int n, .lst (taken.map .str)] (.lst ((namedS taken p n).2.map .str)) (namedS taken p n).1
theorem sign_at {z : Str} {i : Nat} (h : i < z.length) : atI z.cps.toList (i : Int) = some (z.cps.toList.getD i 0) := by
  have h' : i < z.cps.toList.length := by simpa [Str.length] using h
  rw [atI_nat (v := z.cps.toList[i]) (List.getElem?_eq_getElem h'), List.getD_eq_getElem?_getD, List.getElem?_eq_getElem h', Option.getD_some]
section
variable {P : Program} {w : World} {K : PySem.W.Frag} {mg : Str → Option Value} {base : Heap}
abbrev s_law_named : Stmt := top 42
theorem sc_law_named : FnScope ["_law_pot_here", "_law_many", "_law_taken", "_law_found", "_law_turn", "_law_size", "_law_label", "_law_spare", "_law_sign", "_law_more", "_law_near"] ["_law_pot_here", "_law_many", "_law_taken"] (C8.fnScope s_law_named) := C8.fnScope_by (by decide +kernel)
theorem ok_named {f : Addr} {fd : FuncData} (Fd : C8.Def K mg "_law_named" s_law_named f fd) (b : Binds K fd ["_law_pot_here", "_law_many", "_law_taken"] []) (T : Bi mg) (c_law_draw : C8.Cal P w K mg base 1 "_law_draw" (spP R_draw) []) : C8.Cal P w K mg base 2 "_law_named" (spP R_named) [] := by
  refine C8.cal0 Fd b .nil sc_law_named (len_P fun p ds d p' h => by cases h; rfl) fun cdv A outer s H vs Q E hr h => ?_
  refine ⟨_, (pss_cons (ps_set (i := 3) sc_law_named.nd rfl (by first | exact Or.inl rfl | exact Or.inr rfl) (pe_lst pa_nil))
      (pss_cons (ps_for PassesOwn.never rfl (pi_range1 (by rfl) T.b_range (pa_cons (pv 1) pa_nil)) (pg_name (i := 4) sc_law_named.nd rfl (by first | exact Or.inl rfl | exact Or.inr rfl))
      (pss_cons (ps_set (i := 5) sc_law_named.nd rfl (by first | exact Or.inl rfl | exact Or.inr rfl) (C8.pe_c c_law_draw hr (by decide) rfl (pa_cons (pv 0) (pa_cons pe_int pa_nil))))
      (pss_cons (ps_set (i := 6) sc_law_named.nd rfl (by first | exact Or.inl rfl | exact Or.inr rfl) (pe_ix ix_str pe_str (C8.pe_c c_law_draw hr (by decide) rfl (pa_cons (pv 0) (pa_cons pe_int pa_nil))) (fun _ _ => rfl)))
      (pss_cons (ps_set (i := 6) sc_law_named.nd rfl (by first | exact Or.inl rfl | exact Or.inr rfl) (pe_op op_add_str (pv 6) (pe_join pe_str (pe_lc (own := [("_law_sign", 8)]) (g := gName 8) (tt := tYes) rfl sc_law_named.nd (pi_range1 (by rfl) T.b_range (pa_cons (pv 5) pa_nil)) (blkOk_by (N := ["_law_pot_here", "_law_many", "_law_taken", "_law_found", "_law_turn", "_law_size", "_law_label", "_law_spare", "_law_sign", "_law_more", "_law_near"]) (sc := C8.fnScope s_law_named) (by decide +kernel)) (fun _ _ _ _ _ => (pg_name (i := 8) sc_law_named.nd rfl (by first | exact Or.inl rfl | exact Or.inr rfl))) (fun _ _ _ _ _ => pts_nil) (fun _ _ _ _ _ => (pe_ix ix_str pe_str (C8.pe_c c_law_draw hr (by decide) rfl (pa_cons (pv 0) (pa_cons pe_int pa_nil))) (fun _ _ => rfl)))))))
      (pss_cons (ps_set (i := 7) sc_law_named.nd rfl (by first | exact Or.inl rfl | exact Or.inr rfl) (pe_op op_cat (pe_lst (pa_cons (pv 6) pa_nil)) (pe_lc (own := [("_law_more", 9)]) (g := gName 9) (tt := tYes) rfl sc_law_named.nd (pi_range2 (by rfl) T.b_range (pa_cons pe_int (pa_cons pe_int pa_nil))) (blkOk_by (N := ["_law_pot_here", "_law_many", "_law_taken", "_law_found", "_law_turn", "_law_size", "_law_label", "_law_spare", "_law_sign", "_law_more", "_law_near"]) (sc := C8.fnScope s_law_named) (by decide +kernel)) (fun _ _ _ _ _ => (pg_name (i := 9) sc_law_named.nd rfl (by first | exact Or.inl rfl | exact Or.inr rfl))) (fun _ _ _ _ _ => pts_nil) (fun _ _ _ _ _ => (pe_op op_add_str (pv 6) (pe_callTy call_str_int (by rfl) T.b_str (by decide +kernel) (pa_cons (pv 9) pa_nil)))))))
      (pss_one (ps_expr (pe_bm PySem.F.plainAttrs_list PySem.F.slot_list_append PySem.F.type_list_append mt_append (pv 3) (pa_cons (pe_ix (k_ixL rfl) (pe_lc (own := [("_law_near", 10)]) (g := gName 10) rfl sc_law_named.nd (k_ilist rfl (pv 7)) (blkOk_by (N := ["_law_pot_here", "_law_many", "_law_taken", "_law_found", "_law_turn", "_law_size", "_law_label", "_law_spare", "_law_sign", "_law_more", "_law_near"]) (sc := C8.fnScope s_law_named) (by decide +kernel)) (fun _ _ _ _ _ => (pg_name (i := 10) sc_law_named.nd rfl (by first | exact Or.inl rfl | exact Or.inr rfl))) (fun _ _ _ _ _ => (pts_one (PW.pt (pw_and (pt_cmpR (k_notIn rfl) (pv 10) (pv 3) (by rfl)) (pw_and1 (pt_cmpR (k_notIn rfl) (pv 10) (pv 2) (by rfl))))))) (fun _ _ _ _ _ => (pv 10))) pe_int (fun _ _ => rfl)) pa_nil)))))))))
      (pss_one (ps_ret (pv 3))))), run_P h ?_⟩
  rintro p _ _ _ ⟨n, taken, hn⟩ F -
  refine ⟨_, .rt [.dead], ?_⟩
  refine ws_seq (ws_set 3 (ev_lstO (ds := []) eva_nil (by decide) 1 rfl)) ?_
  let S : Nat → List Slot × List Cell := fun i => ([.cell 0, .dat (.int n), .dat (.lst (taken.map .str)), .cell 1, .un, .un, .un, .un, .un, .un, .un], [potC (namedS taken p i).1, .lst ((namedS taken p i).2.map .str)])
  have hlen : (rngD ((n : Int).toNat) 0).length = n := by rw [rngD_len]; simp
  refine ws_seq (ρ1 := (S n).1) (μ1 := (S n).2) ?_ (ws_ret (ev_free (k := 1) (ds := (namedS taken p n).2.map .str) (ev_var 3 rfl (by simp)) rfl))
  refine ws_forN n [4] S (evi_range1 (j := (n : Int)) (eva_cons (ev_var 1 rfl (by simp)) eva_nil) (by omega) (by omega)) rfl hlen ?turn
  case turn =>
    intro i d hd
    obtain ⟨rfl, hi⟩ := rngD_get hd
    have hi : i < n := by simpa using hi
    have hf : (namedS taken p i).2.length = i := namedS_len taken p i
    have es : S (i + 1) = ([.cell 0, .dat (.int n), .dat (.lst (taken.map .str)), .cell 1, .un, .un, .un, .un, .un, .un, .un], [potC (labelP (namedS taken p i).1), .lst (((namedS taken p i).2 ++ [pick (label (namedS taken p i).1) (namedS taken p i).2 taken]).map .str)]) := rfl
    have eS : S i = ([.cell 0, .dat (.int n), .dat (.lst (taken.map .str)), .cell 1, .un, .un, .un, .un, .un, .un, .un], [potC (namedS taken p i).1, .lst ((namedS taken p i).2.map .str)]) := rfl
    rw [es, eS]
    dsimp only
    clear es eS
    clear_value S
    generalize (namedS taken p i).1 = q, (namedS taken p i).2 = found at hf ⊢
    refine ⟨_, evg_name 4, .inl (ws_weak (ρ1 := [.cell 0, .dat (.int n), .dat (.lst (taken.map .str)), .cell 1, .dat (.int (0 + (i : Nat))), .dat (.int (q.draw 3 : Nat)), .dat (.str (label q)), .dat (.lst ((spare (label q)).map .str)), .un, .un, .un]) ?_ ?_)⟩
    rotate_left
    · repeat first | exact .nil | refine .cons (.inl rfl) ?_ | refine .cons (.inr rfl) ?_
    refine ws_seq (ws_set 5 (ev_callP (ds := [.int (3 : Nat)]) (eva_cons (ev_var 0 rfl (by simp)) (eva_cons (ev_int _) eva_nil)) rfl (.mk _ 3 (by decide) (by decide)))) ?_
    refine ws_seq (ws_set 6 (ev_op (opd_ixS (by decide +kernel) (sign_at (z := alpha) ?_)) (ev_str _) (ev_callP (ds := [.int (26 : Nat)]) (eva_cons (ev_var 0 rfl (by simp)) (eva_cons (ev_int _) eva_nil)) rfl (.mk _ 26 (by decide) (by decide))))) ?_
    · exact Nat.lt_of_lt_of_le (Pot.draw_lt _ (by decide)) (by decide +kernel)
    have hd3 : q.draw 3 < 3 := q.draw_lt (by decide)
    have h26 : (q.next 3).draw 26 < 26 := Pot.draw_lt _ (by decide)
    have ones : ∀ a ∈ (List.range (q.draw 3)).map (fun j => sign suff ((((q.next 3).next 26).nth 24 j).draw 24)), a.length = 1 := by
      intro a ha
      obtain ⟨i, _, rfl⟩ := List.mem_map.mp ha
      rfl
    have hjoin : ((((List.range (q.draw 3)).map fun j => sign suff ((((q.next 3).next 26).nth 24 j).draw 24)).map (·.length)).sum + ((List.range (q.draw 3)).map fun j => sign suff ((((q.next 3).next 26).nth 24 j).draw 24)).length * (("" : Str)).length) ≤ 16777216 := by
      have h0 : (("" : Str)).length = 0 := by decide
      rw [h0, Nat.mul_zero, Nat.add_zero, sum_ones _ ones, List.length_map, List.length_range]
      omega
    have ll := label_len q
    refine ws_seq (ws_set 6 (ev_op (opd_adds ?_) (ev_var 6 rfl (by simp)) (ev_join hjoin (ev_str _) (ev_lcN (q.draw 3) (evi_range1 (j := (q.draw 3 : Nat)) (eva_cons (ev_var 5 rfl (by simp)) eva_nil) ?_ ?_) ?_ ?_ ?_ (fun j => [potC (((q.next 3).next 26).nth 24 j), .lst (found.map .str)]) rfl (fun j => ((List.range j).map fun j => sign suff ((((q.next 3).next 26).nth 24 j).draw 24)).map .str) rfl ?_)))) ?_
    · have := label_len q
      unfold label at this
      rw [strLen_append] at this
      exact Nat.le_trans this (by decide)
    · omega
    · omega
    · rw [rngD_len]; omega
    · intro i hi
      cases List.mem_singleton.mp hi
      rfl
    · omega
    · intro j d hd F'
      obtain ⟨rfl, hj⟩ := rngD_get hd
      refine ⟨_, evg_name 8, true, _, evt_yes, ?_⟩
      rw [if_pos rfl]
      refine ⟨_, ev_eqm (ev_op (opd_ixS (by decide +kernel) (sign_at (z := suff) ?_)) (ev_str _) (ev_callP (ds := [.int (24 : Nat)]) (eva_cons (ev_var 0 rfl (by simp)) (eva_cons (ev_int _) eva_nil)) rfl (R_draw.mk _ 24 (by decide) (by decide)))) rfl, ?_⟩
      · exact Nat.lt_of_lt_of_le (Pot.draw_lt _ (by decide)) (by decide +kernel)
      · rw [List.range_succ, List.map_append, List.map_append]
        rfl
    have sl := label_len q
    have hz3 : (3 : Nat) ≤ sizeLine := by decide
    have hz1000 : (1000 : Nat) ≤ sizeLine := by decide
    have hsp : ∀ j ∈ List.range 90, (toString (10 + ((j : Nat) : Int)) : Str).length ≤ 2 := by decide +kernel
    have hpl : ∀ j : Nat, j < 90 → ((10 + (j : Int)).natAbs.log2 < 1920) := fun j hj => by
      have : (10 + (j : Int)).natAbs ≤ 100 := by omega
      exact Nat.lt_of_le_of_lt (Nat.log2_le_self _) (by omega)
    refine ws_seq (ws_set 7 (r := .dat (.lst ((spare (label q)).map .str))) (ev_eqd (ev_op (opd_cat (xs := [.str (label q)]) ?a) (ev_lst (eva_cons (ev_var 6 rfl (by simp)) eva_nil) ?b) (ev_lcF (α := Nat) (p := fun _ => true) (f := fun (j : Nat) => D.str (label q ++ (toString (10 + (j : Int)) : Str))) (evi_range2 (i := 10) (j := 100) (eva_cons (ev_int _) (eva_cons (ev_int _) eva_nil)) (by decide)) ?c ?d (fun F' a => evg_name 9) (fun F' a _ => evt_yes) (fun F' a ha _ => ev_op (opd_adds ?e) (ev_var 6 rfl (by simp)) (ev_cb (ds := [_]) (cd_strI ?f) (eva_cons (ev_var 9 rfl (by simp)) eva_nil))))) ?g)) ?h
    case a =>
      rw [List.length_map]
      exact Nat.le_trans (Nat.add_le_add_left (List.length_filter_le _ _) _) (show 1 + (List.range 90).length ≤ sizeLine by decide)
    case b => exact Nat.le_trans (show 1 ≤ 3 by decide) hz3
    case c =>
      intro i hi
      cases List.mem_singleton.mp hi
      rfl
    case d => decide
    case e =>
      rw [← Nat.add_zero (sizeLine)]
      exact Nat.le_trans (Nat.add_le_add sl (hsp a ha)) (by decide)
    case f => exact hpl a (List.mem_range.mp ha)
    case g =>
      rw [List.filter_eq_self.mpr (fun _ _ => rfl)]
      unfold spare
      rw [List.map_append, List.map_map]
      rfl
    case h =>
      obtain ⟨tl, htl⟩ := pick_spec (l := label q) (found := found) (taken := taken) (by omega)
      have hs : ([potC (labelP q), .lst ((found ++ [pick (label q) found taken]).map .str)] : List Cell) = List.set [potC (labelP q), .lst (found.map .str)] 1 (.lst (found.map .str ++ [.str (pick (label q) found taken)])) := by
        rw [List.map_append]
        rfl
      rw [hs]
      refine ws_drop (ev_mut (ds := found.map .str) (es := [.str (pick (label q) found taken)]) (md_append ?_) (ev_var 3 rfl (by simp)) (eva_cons (ev_op (opd_ixL ?_) (ev_lcF (enc := .str) (xs := spare (label q)) (f := fun x => D.str x) (p := fun x => !decide (x ∈ found) && !decide (x ∈ taken)) (evi_list (ev_var 7 rfl (by simp))) ?_ ?_ (fun z x => evg_name 10) (fun z x hx => ev_tmu (evt_and (evt_test (ev_opC2 opd_notinS rfl (ev_var 10 rfl (by simp)) (ev_var 3 rfl (by simp)) rfl)) fun h => (evt_test (ev_op opd_notinS (ev_var 10 rfl (by simp)) (ev_var 2 rfl (by simp))))) (by split <;> rfl)) (fun z x hx hp => (ev_var 10 rfl (by simp)))) (ev_int _)) eva_nil) ⟨_, rfl⟩ rfl)
      · rw [List.length_map]; exact Nat.lt_of_lt_of_le (show found.length < 1000 by omega) hz1000
      · rw [htl]
        exact atI_nat (j := 0) rfl
      · intro i hi
        cases List.mem_singleton.mp hi
        rfl
      · rw [spare_eq, List.length_map]; decide
end
end Dl
end
section
set_option Elab.async false
set_option maxRecDepth 100000
set_option maxHeartbeats 4000000
set_option linter.all false
namespace Dl
open PySem L2
/-! ### the model -/
def encL (b : List Str) : D := .lst (b.map .str)
def setsD (ss : List (Str × List Str)) : List (Key × D) := ss.map fun e => (.inr e.1, encL e.2)
structure Mdl where
  sgl : List Str
  sets : List (Str × List Str)
def mdlD (M : Mdl) : D := .dic [(.inr ("singles" : Str), encL M.sgl), (.inr ("sets" : Str), .dic (setsD M.sets))]
/-- taking blocks -/
structure Tk where
  p : Pot
  blocks : List (List Str)
  both : List Str
def Tk.next (s : Tk) : Tk := ⟨s.p.next s.blocks.length, s.blocks.eraseIdx (s.p.draw s.blocks.length), s.both ++ s.blocks.getD (s.p.draw s.blocks.length) []⟩
def Tk.many (s : Tk) : Nat → Tk
  | 0 => s
  | i + 1 => (s.many i).next
/-- the making of the sets -/
structure Wd where
  p : Pot
  blocks : List (List Str)
  sets : List (Str × List Str)
def Wd.tk (s : Wd) : Tk := Tk.many ⟨s.p.next 2, s.blocks, []⟩ (min (2 + s.p.draw 2) s.blocks.length)
def Wd.label (sgl : List Str) (s : Wd) : Str := pick (Dl.label s.tk.p) [] (sgl ++ s.sets.map (·.1))
def Wd.next (sgl : List Str) (s : Wd) : Wd :=
  if 1 < s.blocks.length then ⟨labelP s.tk.p, s.tk.blocks ++ [s.tk.both], s.sets ++ [(s.label sgl, sgl.filter fun x => decide (x ∈ s.tk.both))]⟩ else s
def Wd.many (sgl : List Str) (s : Wd) : Nat → Wd
  | 0 => s
  | i + 1 => (s.many sgl i).next sgl
def wideSgl (p : Pot) : Pot × List Str := namedS [] (p.next 5) (1 + p.draw 5)
def wideW (p : Pot) : Wd := Wd.many (wideSgl p).2 ⟨(wideSgl p).1.next 5, (wideSgl p).2.map fun s => [s], []⟩ ((wideSgl p).1.draw 5)
def wideM (p : Pot) : Mdl := ⟨(wideSgl p).2, (wideW p).sets⟩
inductive R_wide : Pot → List D → D → Pot → Prop
  | mk (p : Pot) : R_wide p [] (mdlD (wideM p)) (wideW p).p
theorem Wd.sets_len (sgl : List Str) (s : Wd) (h : s.sets = []) : ∀ n, (s.many sgl n).sets.length ≤ n
  | 0 => by show s.sets.length ≤ 0; rw [h]; exact Nat.le_refl _
  | n + 1 => by
    have ih := Wd.sets_len sgl s h n
    show ((s.many sgl n).next sgl).sets.length ≤ n + 1
    unfold Wd.next
    split
    · rw [List.length_append, List.length_singleton]; omega
    · omega
theorem Tk.len (s : Tk) : ∀ n, n ≤ s.blocks.length → (s.many n).blocks.length = s.blocks.length - n
  | 0, _ => rfl
  | n + 1, h => by
    have ih := Tk.len s n (by omega)
    show ((s.many n).next).blocks.length = _
    unfold Tk.next
    have hl := Pot.draw_lt (s.many n).p (m := (s.many n).blocks.length) (by omega)
    rw [List.length_eraseIdx_of_lt hl]
    omega
theorem Wd.bl_len (sgl : List Str) (s : Wd) {N : Nat} (h : s.blocks.length ≤ N) : ∀ n, (s.many sgl n).blocks.length ≤ N
  | 0 => h
  | n + 1 => by
    have ih := Wd.bl_len sgl s h n
    show ((s.many sgl n).next sgl).blocks.length ≤ N
    unfold Wd.next
    split
    · rename_i h1
      rw [List.length_append, List.length_singleton]
      unfold Wd.tk
      rw [Tk.len _ _ (Nat.min_le_right _ _)]
      show (s.many sgl n).blocks.length - min _ (s.many sgl n).blocks.length + 1 ≤ N
      omega
    · exact ih
theorem erase_perm {α : Type} : ∀ {xs : List α} {j : Nat} {a : α}, xs[j]? = some a → (a :: xs.eraseIdx j).Perm xs
  | [], _, _, h => by simp at h
  | x :: xs, 0, a, h => by
    have : x = a := by simpa using h
    subst this
    exact List.Perm.refl _
  | x :: xs, j + 1, a, h => by
    have ih := erase_perm (xs := xs) (j := j) (a := a) (by simpa using h)
    exact (List.Perm.swap x a _).trans (ih.cons x)
theorem Tk.perm (s : Tk) : ∀ n, n ≤ s.blocks.length → ((s.many n).blocks.flatten ++ (s.many n).both).Perm (s.blocks.flatten ++ s.both)
  | 0, _ => List.Perm.refl _
  | n + 1, h => by
    have ih := Tk.perm s n (by omega)
    have hl := Tk.len s n (by omega)
    refine List.Perm.trans ?_ ih
    show ((s.many n).next.blocks.flatten ++ (s.many n).next.both).Perm _
    generalize s.many n = t at hl ⊢
    unfold Tk.next
    have hj := Pot.draw_lt t.p (m := t.blocks.length) (by omega)
    generalize t.p.draw t.blocks.length = j at hj ⊢
    have e : t.blocks[j]? = some (t.blocks.getD j []) := by
      rw [List.getD_eq_getElem?_getD, List.getElem?_eq_getElem hj]
      rfl
    have q := (erase_perm e).flatten
    rw [List.flatten_cons] at q
    show ((t.blocks.eraseIdx j).flatten ++ (t.both ++ t.blocks.getD j [])).Perm _
    refine List.Perm.trans ?_ (q.append_right t.both)
    refine (List.perm_append_comm).trans ?_
    rw [List.append_assoc, List.append_assoc]
    refine (List.perm_append_comm).trans ?_
    rw [List.append_assoc]
theorem Wd.perm (sgl : List Str) (s : Wd) : ∀ n, (s.many sgl n).blocks.flatten.Perm s.blocks.flatten
  | 0 => List.Perm.refl _
  | n + 1 => by
    have ih := Wd.perm sgl s n
    refine List.Perm.trans ?_ ih
    show ((s.many sgl n).next sgl).blocks.flatten.Perm _
    generalize s.many sgl n = t
    unfold Wd.next
    split
    · have h := Tk.perm ⟨t.p.next 2, t.blocks, []⟩ (min (2 + t.p.draw 2) t.blocks.length) (Nat.min_le_right _ _)
      show (t.tk.blocks ++ [t.tk.both]).flatten.Perm _
      rw [List.flatten_append]
      simpa [Wd.tk] using h
    · exact List.Perm.refl _
theorem putD_new {es : List (Key × D)} {k : Key} {d : D} (h : ∀ e ∈ es, e.1 ≠ k) : putD es k d = es ++ [(k, d)] := by
  unfold putD
  rw [if_neg]
  intro q
  obtain ⟨e, he, q⟩ := List.any_eq_true.mp q
  exact h e he (by simpa using q)
theorem pick_new {l : Str} {found taken : List Str} (h : found.length + taken.length < 91) : pick l found taken ∉ found ∧ pick l found taken ∉ taken := by
  obtain ⟨tl, e⟩ := pick_spec (l := l) h
  have : pick l found taken ∈ (spare l).filter (fun x => !decide (x ∈ found) && !decide (x ∈ taken)) := by rw [e]; exact List.mem_cons_self
  have := (List.mem_filter.mp this).2
  simpa using this
theorem ws_par2' {F : Fm} {ρ ρ' : List Slot} {μ μ1 : List Cell} {t : TA} (i j : Nat) {r1 r2 : Slot} (h : EvA F t ρ μ [r1, r2] μ1) (e : (ρ.set i r1).set j r2 = ρ') : Ws F (tPar i j t) ρ μ (.nx ρ' μ1) := by
  subst e
  exact ws_par2 i j h
theorem map_erase {α β : Type} (f : α → β) : ∀ (xs : List α) (j : Nat), (xs.eraseIdx j).map f = (xs.map f).eraseIdx j
  | [], _ => rfl
  | _ :: _, 0 => rfl
  | x :: xs, j + 1 => congrArg (f x :: ·) (map_erase f xs j)
theorem ws_eqm {F : Fm} {ρ ρ1 : List Slot} {μ μ1 μ2 : List Cell} {ts : TS} (h : Ws F ts ρ μ (.nx ρ1 μ1)) (e : μ1 = μ2) : Ws F ts ρ μ (.nx ρ1 μ2) := by
  subst e
  exact h
theorem setsD_keys (ss : List (Str × List Str)) : (setsD ss).map (fun e => keyD e.1) = (ss.map (·.1)).map D.str := by
  unfold setsD
  rw [List.map_map, List.map_map]
  rfl
theorem setsD_put {ss : List (Str × List Str)} {l : Str} {b : List Str} (h : l ∉ ss.map (·.1)) : putD (setsD ss) (.inr l) (encL b) = setsD (ss ++ [(l, b)]) := by
  rw [putD_new]
  · unfold setsD
    rw [List.map_append]
    rfl
  · intro e he q
    obtain ⟨x, hx, rfl⟩ := List.mem_map.mp he
    exact h (List.mem_map.mpr ⟨x, hx, Sum.inr.inj q⟩)
theorem merge_2 {k1 k2 : Key} {d1 d2 : D} (h : k1 ≠ k2) : mergeD [] [(k1, d1), (k2, d2)] = [(k1, d1), (k2, d2)] := by
  simp [mergeD, putD, h]
theorem lt_units {a k c : Nat} (h : a + 16 * k + 200 < c) : a + 1 < c := by omega
section
variable {P : Program} {w : World} {K : PySem.W.Frag} {mg : Str → Option Value} {base : Heap}
abbrev s_law_wide_model : Stmt := top 43
theorem sc_law_wide_model : FnScope ["_law_pot_here", "_law_singles", "_law_blocks", "_law_sets", "_law_turn", "_law_both", "_law_part", "_law_label", "_law_single"] ["_law_pot_here"] (C8.fnScope s_law_wide_model) := C8.fnScope_by (by decide +kernel)
theorem ok_wide {f : Addr} {fd : FuncData} (Fd : C8.Def K mg "_law_wide_model" s_law_wide_model f fd) (b : Binds K fd ["_law_pot_here"] []) (T : Bi mg) (c_law_draw : C8.Cal P w K mg base 1 "_law_draw" (spP R_draw) []) (c_law_named : C8.Cal P w K mg base 2 "_law_named" (spP R_named) []) : C8.Cal P w K mg base 3 "_law_wide_model" (spP R_wide) [] := by
  refine C8.cal0 Fd b .nil sc_law_wide_model (len_P fun p ds d p' h => by cases h; rfl) fun cdv A outer s H vs Q E hr h => ?_
  refine ⟨_, (pss_cons (ps_set (i := 1) sc_law_wide_model.nd rfl (by first | exact Or.inl rfl | exact Or.inr rfl) (C8.pe_c c_law_named hr (by decide) rfl (pa_cons (pv 0) (pa_cons (pe_op op_add pe_int (C8.pe_c c_law_draw hr (by decide) rfl (pa_cons (pv 0) (pa_cons pe_int pa_nil)))) (pa_cons (pe_lst pa_nil) pa_nil)))))
      (pss_cons (ps_par (i := 2) (j := 3) rfl sc_law_wide_model.nd rfl rfl (by decide) rfl rfl (pa_cons (pe_lc (own := [("_law_single", 8)]) (g := gName 8) (tt := tYes) rfl sc_law_wide_model.nd (pi_list (pv 1)) (blkOk_by (N := ["_law_pot_here", "_law_singles", "_law_blocks", "_law_sets", "_law_turn", "_law_both", "_law_part", "_law_label", "_law_single"]) (sc := C8.fnScope s_law_wide_model) (by decide +kernel)) (fun _ _ _ _ _ => (pg_name (i := 8) sc_law_wide_model.nd rfl (by first | exact Or.inl rfl | exact Or.inr rfl))) (fun _ _ _ _ _ => pts_nil) (fun _ _ _ _ _ => (pe_lst (pa_cons (pv 8) pa_nil)))) (pa_cons pe_dnewK pa_nil)) (by rfl))
      (pss_cons (ps_for PassesOwn.never rfl (pi_range1 (by rfl) T.b_range (pa_cons (C8.pe_c c_law_draw hr (by decide) rfl (pa_cons (pv 0) (pa_cons pe_int pa_nil))) pa_nil)) (pg_name (i := 4) sc_law_wide_model.nd rfl (by first | exact Or.inl rfl | exact Or.inr rfl))
      (pss_one (ps_if (pt_cmpR op_gt (pe_callB call_len_seq (by rfl) T.b_len PySem.boot_len (pa_cons (pv 2) pa_nil)) pe_int (nomark _))
      (pss_cons (ps_set (i := 5) sc_law_wide_model.nd rfl (by first | exact Or.inl rfl | exact Or.inr rfl) (pe_lst pa_nil))
      (pss_cons (ps_for PassesOwn.never rfl (pi_range1 (by rfl) T.b_range (pa_cons (pe_callB (call_min2 rfl) (by rfl) T.b_min (by decide +kernel) (pa_cons (pe_op op_add pe_int (C8.pe_c c_law_draw hr (by decide) rfl (pa_cons (pv 0) (pa_cons pe_int pa_nil)))) (pa_cons (pe_callB call_len_seq (by rfl) T.b_len PySem.boot_len (pa_cons (pv 2) pa_nil)) pa_nil))) pa_nil)) (pg_name (i := 6) sc_law_wide_model.nd rfl (by first | exact Or.inl rfl | exact Or.inr rfl))
      (pss_one (ps_set (i := 5) sc_law_wide_model.nd rfl (by first | exact Or.inl rfl | exact Or.inr rfl) (pe_op op_cat (pv 5) (pe_bm PySem.F.plainAttrs_list PySem.F.slot_list_pop PySem.F.type_list_pop mt_popAt (pv 2) (pa_cons (C8.pe_c c_law_draw hr (by decide) rfl (pa_cons (pv 0) (pa_cons (pe_callB call_len_seq (by rfl) T.b_len PySem.boot_len (pa_cons (pv 2) pa_nil)) pa_nil))) pa_nil))))))
      (pss_cons (ps_set (i := 7) sc_law_wide_model.nd rfl (by first | exact Or.inl rfl | exact Or.inr rfl) (pe_ix ix_list (C8.pe_c c_law_named hr (by decide) rfl (pa_cons (pv 0) (pa_cons pe_int (pa_cons (pe_op op_cat (pv 1) (pe_callTy (call_listD rfl) (by rfl) T.b_list (by decide +kernel) (pa_cons (pv 3) pa_nil))) pa_nil)))) pe_int (fun _ _ => rfl)))
      (pss_cons (ps_asg (pe_lc (own := [("_law_single", 8)]) (g := gName 8) rfl sc_law_wide_model.nd (pi_list (pv 1)) (blkOk_by (N := ["_law_pot_here", "_law_singles", "_law_blocks", "_law_sets", "_law_turn", "_law_both", "_law_part", "_law_label", "_law_single"]) (sc := C8.fnScope s_law_wide_model) (by decide +kernel)) (fun _ _ _ _ _ => (pg_name (i := 8) sc_law_wide_model.nd rfl (by first | exact Or.inl rfl | exact Or.inr rfl))) (fun _ _ _ _ _ => (pts_one (pt_cmpR (k_in rfl) (pv 8) (pv 5) (by rfl)))) (fun _ _ _ _ _ => (pv 8))) (pg_sub (pv 3) (pv 7) (set_dict (lt_units (k := 2) hr.un))))
      (pss_one (ps_expr (pe_bm PySem.F.plainAttrs_list PySem.F.slot_list_append PySem.F.type_list_append mt_append (pv 2) (pa_cons (pv 5) pa_nil)))))))) pss_nil)))
      (pss_one (ps_ret (pe_disp (pps_cons pe_str (pv 1) (pps_cons pe_str (pv 3) pps_nil)) rfl rfl (by simp) (by decide))))))), run_P h ?_⟩
  rintro p _ _ _ ⟨⟩ F -
  refine ⟨_, .rt [.lst ((wideW p).blocks.map encL), .dead], ?_⟩
  show Ws F _ (.cell 0 :: List.replicate 8 .un) _ _
  generalize hq : p.next 5 = q0
  -- the singles
  refine ws_seq (ws_set 1 (ev_callP (p' := (wideSgl p).1) (d := encL (wideSgl p).2) (ds := [.int (1 + p.draw 5 : Nat), .lst []]) (eva_cons (ev_var 0 rfl (by simp)) (eva_cons (ev_eqd (ev_op opd_add (ev_int _) (ev_callP (ds := [.int (5 : Nat)]) (eva_cons (ev_var 0 rfl (by simp)) (eva_cons (ev_int _) eva_nil)) rfl (.mk _ 5 (by decide) (by decide)))) ?a) (eva_cons (ev_lst (ds := []) eva_nil (by decide)) eva_nil))) rfl ?b)) ?c
  case a => rfl
  case b => exact R_named.mk (p.next 5) (1 + p.draw 5) [] (by have := p.draw_lt (m := 5) (by decide); simp; omega)
  case c =>
    have hS : (wideSgl p).2.length = 1 + p.draw 5 := namedS_len [] _ _
    have hd5 := p.draw_lt (m := 5) (by decide)
    have hw : wideW p = Wd.many (wideSgl p).2 ⟨(wideSgl p).1.next 5, (wideSgl p).2.map fun s => [s], []⟩ ((wideSgl p).1.draw 5) := rfl
    rw [hw]
    have hm : mdlD (wideM p) = mdlD ⟨(wideSgl p).2, (Wd.many (wideSgl p).2 ⟨(wideSgl p).1.next 5, (wideSgl p).2.map fun s => [s], []⟩ ((wideSgl p).1.draw 5)).sets⟩ := rfl
    rw [hm]
    generalize (wideSgl p).2 = sgl, (wideSgl p).1 = q at hS ⊢
    clear hw hm
    let s0 : Wd := ⟨q.next 5, sgl.map fun s => [s], []⟩
    have hs15 : (15 : Nat) ≤ sizeLine := by decide
    have hs1000 : (1000 : Nat) ≤ sizeLine := by decide
    refine ws_seq (ρ1 := [.cell 0, .dat (encL sgl), .cell 1, .cell 2, .un, .un, .un, .un, .un]) (μ1 := [potC q, .lst (s0.blocks.map encL), .dic []]) (ws_par2' 2 3 (eva_cons (ev_eqm (ev_lcFO (α := Str) (enc := .str) (xs := sgl) (p := fun _ => true) (f := fun x => encL [x]) (evi_list (ev_var 1 rfl (by simp))) ?c1 ?c2 (fun F' a => evg_name 8) (fun F' a _ => evt_yes) (fun F' a _ _ => ev_lst (ds := [.str a]) (eva_cons (ev_var 8 rfl (by simp)) eva_nil) ?c3) 1 rfl) ?c4) (eva_cons (ev_eqm (ev_dnewO (μ := [potC q, .lst (s0.blocks.map encL)]) 2 rfl) rfl) eva_nil)) rfl) ?c5
    case c1 =>
      intro i hi
      cases List.mem_singleton.mp hi
      rfl
    case c2 => omega
    case c3 => exact Nat.le_trans (by simp) hs15
    case c4 =>
      rw [List.filter_eq_self.mpr (fun _ _ => rfl)]
      show _ = [potC q, .lst ((sgl.map fun s => [s]).map encL)]
      rw [List.map_map]
      rfl
    case c5 =>
      have hd := q.draw_lt (m := 5) (by decide)
      let S : Nat → List Slot × List Cell := fun i => ([.cell 0, .dat (encL sgl), .cell 1, .cell 2, .un, .un, .un, .un, .un], [potC (s0.many sgl i).p, .lst ((s0.many sgl i).blocks.map encL), .dic (setsD (s0.many sgl i).sets)])
      refine ws_seq (ρ1 := (S (q.draw 5)).1) (μ1 := (S (q.draw 5)).2) ?_ (ws_ret ?_)
      · refine ws_forN (q.draw 5) [4] S (evi_range1 (j := (q.draw 5 : Nat)) (eva_cons (ev_callP (ds := [.int (5 : Nat)]) (eva_cons (ev_var 0 rfl (by simp)) (eva_cons (ev_int _) eva_nil)) rfl (.mk _ 5 (by decide) (by decide))) eva_nil) (by omega) (by omega)) rfl (by rw [rngD_len]; omega) ?turn
        case turn =>
          intro i d hd
          obtain ⟨rfl, hi⟩ := rngD_get hd
          have hi : i < q.draw 5 := by simpa using hi
          have hl1 : (s0.many sgl i).sets.length ≤ i := Wd.sets_len sgl s0 rfl i
          have hl3 : (s0.many sgl i).blocks.flatten.length ≤ 5 := by
            rw [(Wd.perm sgl s0 i).length_eq]
            show ((sgl.map fun s => [s]).flatten).length ≤ 5
            rw [← List.flatMap_def, List.flatMap_singleton', hS]
            omega
          have hl2 : (s0.many sgl i).blocks.length ≤ 5 := Wd.bl_len sgl s0 (by show (sgl.map _).length ≤ 5; rw [List.length_map]; omega) i
          have es : S (i + 1) = ([.cell 0, .dat (encL sgl), .cell 1, .cell 2, .un, .un, .un, .un, .un], [potC ((s0.many sgl i).next sgl).p, .lst (((s0.many sgl i).next sgl).blocks.map encL), .dic (setsD ((s0.many sgl i).next sgl).sets)]) := rfl
          have eS : S i = ([.cell 0, .dat (encL sgl), .cell 1, .cell 2, .un, .un, .un, .un, .un], [potC (s0.many sgl i).p, .lst ((s0.many sgl i).blocks.map encL), .dic (setsD (s0.many sgl i).sets)]) := rfl
          rw [es, eS]
          dsimp only
          clear es eS
          clear_value S
          generalize s0.many sgl i = st at hl1 hl2 hl3 ⊢
          refine ⟨_, evg_name 4, .inl (ws_weak (ρ1 := [.cell 0, .dat (encL sgl), .cell 1, .cell 2, .dat (.int (0 + (i : Nat))), .un, .un, .un, .un]) ?_ ?_)⟩
          rotate_left
          · repeat first | exact .nil | refine .cons (.inl rfl) ?_ | refine .cons (.inr rfl) ?_
          by_cases hb : 1 < st.blocks.length
          · have e0 : st.next sgl = ⟨labelP st.tk.p, st.tk.blocks ++ [st.tk.both], st.sets ++ [(st.label sgl, sgl.filter fun x => decide (x ∈ st.tk.both))]⟩ := if_pos hb
            rw [e0]
            have hdec : decide ((1 : Int) < (((st.blocks.map encL).length : Nat) : Int)) = true := by
              rw [List.length_map]
              exact decide_eq_true (by omega)
            refine ws_if (b := true) (ev_teq (evt_test (ev_op opd_gt (ev_cbC cd_len rfl (eva_cons (ev_var 2 rfl (by simp)) eva_nil) rfl) (ev_int _))) hdec) (fun _ => ?_) (fun e => by cases e)
            refine ws_weak (ρ1 := [.cell 0, .dat (encL sgl), .cell 1, .cell 2, .dat (.int (0 + (i : Nat))), .dat (encL st.tk.both), .un, .dat (.str (st.label sgl)), .un]) ?_ ?_
            rotate_left
            · repeat first | exact .nil | refine .cons (.inl rfl) ?_ | refine .cons (.inr rfl) ?_
            refine ws_seq (ws_set 5 (ev_lst (ds := []) eva_nil (by decide))) ?_
            have hmin : min (2 + st.p.draw 2) st.blocks.length ≤ st.blocks.length := Nat.min_le_right _ _
            let T2 : Nat → List Slot × List Cell := fun j => ([.cell 0, .dat (encL sgl), .cell 1, .cell 2, .dat (.int (0 + (i : Nat))), .dat (encL (Tk.many ⟨st.p.next 2, st.blocks, []⟩ j).both), .un, .un, .un], [potC (Tk.many ⟨st.p.next 2, st.blocks, []⟩ j).p, .lst ((Tk.many ⟨st.p.next 2, st.blocks, []⟩ j).blocks.map encL), .dic (setsD st.sets)])
            refine ws_seq (ρ1 := (T2 (min (2 + st.p.draw 2) st.blocks.length)).1) (μ1 := (T2 (min (2 + st.p.draw 2) st.blocks.length)).2) ?w1 ?w2
            case w1 =>
              refine ws_forN (min (2 + st.p.draw 2) st.blocks.length) [6] T2 (evi_range1 (j := ((min (2 + st.p.draw 2) st.blocks.length : Nat) : Int)) (eva_cons (ev_eqd (ev_cb (ds := [_, _]) cd_min (eva_cons (ev_op opd_add (ev_int _) (ev_callP (ds := [.int (2 : Nat)]) (eva_cons (ev_var 0 rfl (by simp)) (eva_cons (ev_int _) eva_nil)) rfl (.mk _ 2 (by decide) (by decide)))) (eva_cons (ev_cbC cd_len rfl (eva_cons (ev_var 2 rfl (by simp)) eva_nil) rfl) eva_nil))) ?m1) eva_nil) (by omega) (by omega)) rfl (by rw [rngD_len]; omega) ?m2
              case m1 =>
                rw [List.length_map]
                refine congrArg D.int ?_
                split <;> omega
              case m2 =>
                intro j d hd
                obtain ⟨rfl, hj⟩ := rngD_get hd
                have hj : j < min (2 + st.p.draw 2) st.blocks.length := by omega
                have hlen := Tk.len ⟨st.p.next 2, st.blocks, []⟩ j (by show j ≤ st.blocks.length; omega)
                have hper := (Tk.perm ⟨st.p.next 2, st.blocks, []⟩ j (by show j ≤ st.blocks.length; omega)).length_eq
                have es : T2 (j + 1) = ([.cell 0, .dat (encL sgl), .cell 1, .cell 2, .dat (.int (0 + (i : Nat))), .dat (encL (Tk.many ⟨st.p.next 2, st.blocks, []⟩ j).next.both), .un, .un, .un], [potC (Tk.many ⟨st.p.next 2, st.blocks, []⟩ j).next.p, .lst ((Tk.many ⟨st.p.next 2, st.blocks, []⟩ j).next.blocks.map encL), .dic (setsD st.sets)]) := rfl
                have eS : T2 j = ([.cell 0, .dat (encL sgl), .cell 1, .cell 2, .dat (.int (0 + (i : Nat))), .dat (encL (Tk.many ⟨st.p.next 2, st.blocks, []⟩ j).both), .un, .un, .un], [potC (Tk.many ⟨st.p.next 2, st.blocks, []⟩ j).p, .lst ((Tk.many ⟨st.p.next 2, st.blocks, []⟩ j).blocks.map encL), .dic (setsD st.sets)]) := rfl
                rw [es, eS]
                dsimp only
                clear es eS
                clear_value T2
                generalize Tk.many ⟨st.p.next 2, st.blocks, []⟩ j = tk at hlen hper ⊢
                have hlen : tk.blocks.length = st.blocks.length - j := hlen
                have hper : (tk.blocks.flatten ++ tk.both).length = (st.blocks.flatten ++ []).length := hper
                rw [List.append_nil, List.length_append] at hper
                have hdr := Pot.draw_lt tk.p (m := tk.blocks.length) (by omega)
                have hblk : tk.blocks[tk.p.draw tk.blocks.length]? = some (tk.blocks.getD (tk.p.draw tk.blocks.length) []) := by
                  rw [List.getD_eq_getElem?_getD, List.getElem?_eq_getElem hdr]
                  rfl
                have hfl : (tk.blocks.getD (tk.p.draw tk.blocks.length) []).length ≤ tk.blocks.flatten.length := by
                  have q := ((erase_perm hblk).flatten).length_eq
                  rw [List.flatten_cons, List.length_append] at q
                  omega
                refine ⟨_, evg_name 6, .inl (ws_weak (ρ1 := [.cell 0, .dat (encL sgl), .cell 1, .cell 2, .dat (.int (0 + (i : Nat))), .dat (encL tk.next.both), .dat (.int (0 + (j : Nat))), .un, .un]) ?_ ?_)⟩
                rotate_left
                · repeat first | exact .nil | refine .cons (.inl rfl) ?_ | refine .cons (.inr rfl) ?_
                have hs : ([potC tk.next.p, .lst (tk.next.blocks.map encL), .dic (setsD st.sets)] : List Cell) = List.set [potC (tk.p.next tk.blocks.length), .lst (tk.blocks.map encL), .dic (setsD st.sets)] 1 (.lst ((tk.blocks.map encL).eraseIdx (tk.p.draw tk.blocks.length))) := by
                  rw [← map_erase]
                  rfl
                have hboth : D.lst (tk.next.both.map .str) = D.lst (tk.both.map .str ++ (tk.blocks.getD (tk.p.draw tk.blocks.length) []).map .str) := by
                  rw [← List.map_append]
                  rfl
                rw [hs]
                show Ws F _ _ _ (.nx ([Slot.cell 0, .dat (encL sgl), .cell 1, .cell 2, .dat (.int (0 + (i : Nat))), .dat (encL tk.both), .dat (.int (0 + (j : Nat))), .un, .un].set 5 (.dat (D.lst (tk.next.both.map .str)))) _)
                rw [hboth]
                refine ws_set 5 (ev_op (opd_cat ?_) (ev_var 5 rfl (by simp)) (ev_mut (ds := tk.blocks.map encL) (es := [.int (tk.p.draw tk.blocks.length : Nat)]) (md_popAt (by omega) (by omega) ?_ ?_) (ev_var 2 rfl (by simp)) (eva_cons (ev_callP (ds := [.int (tk.blocks.length : Nat)]) (eva_cons (ev_var 0 rfl (by simp)) (eva_cons (ev_eqd (ev_cbC cd_len rfl (eva_cons (ev_var 2 rfl (by simp)) eva_nil) rfl) ?_) eva_nil)) rfl (.mk _ tk.blocks.length (by omega) (by omega))) eva_nil) ⟨_, rfl⟩ rfl))
                · rw [List.length_map, List.length_map]
                  exact Nat.le_trans (show _ ≤ (1000 : Nat) by omega) hs1000
                · have := hdr
                  omega
                · rw [List.getElem?_map, hblk]
                  rfl
                · rw [List.length_map]
            case w2 =>
              show Ws F _ [.cell 0, .dat (encL sgl), .cell 1, .cell 2, .dat (.int (0 + (i : Nat))), .dat (encL st.tk.both), .un, .un, .un] [potC st.tk.p, .lst (st.tk.blocks.map encL), .dic (setsD st.sets)] _
              clear_value T2
              have htl : (sgl ++ st.sets.map (·.1)).length ≤ 10 := by
                rw [List.length_append, List.length_map]
                omega
              have hpn := pick_new (l := Dl.label st.tk.p) (found := []) (taken := sgl ++ st.sets.map (·.1)) (by simp only [List.length_nil]; omega)
              have hnew : st.label sgl ∉ st.sets.map (·.1) := fun q => hpn.2 (List.mem_append_right _ q)
              have htk : st.tk.blocks.length ≤ 5 := by
                unfold Wd.tk
                rw [Tk.len _ _ (Nat.min_le_right _ _)]
                show st.blocks.length - _ ≤ 5
                omega
              refine ws_seq (ρ1 := [.cell 0, .dat (encL sgl), .cell 1, .cell 2, .dat (.int (0 + (i : Nat))), .dat (encL st.tk.both), .un, .dat (.str (st.label sgl)), .un]) (μ1 := [potC (labelP st.tk.p), .lst (st.tk.blocks.map encL), .dic (setsD st.sets)]) ?x1 ?x2
              case x1 =>
                refine ws_set 7 (r := .dat (.str (st.label sgl))) (ev_op (opd_ixL ?y1) (ev_callP (p := st.tk.p) (p' := labelP st.tk.p) (d := .lst [.str (st.label sgl)]) (ds := [.int (1 : Nat), .lst ((sgl ++ st.sets.map (·.1)).map .str)]) (eva_cons (ev_var 0 rfl (by simp)) (eva_cons (ev_int _) (eva_cons (ev_eqd (ev_op (opd_cat ?y2) (ev_var 1 rfl (by simp)) (ev_listCK (eva_cons (ev_var 3 rfl (by simp)) eva_nil) rfl)) ?y3) eva_nil))) rfl ?y4) (ev_int _))
                case y1 => exact atI_nat (j := 0) rfl
                case y2 =>
                  rw [setsD_keys, List.length_map, List.length_map, List.length_map]
                  exact Nat.le_trans (show _ ≤ (1000 : Nat) by omega) hs1000
                case y3 => rw [setsD_keys, ← List.map_append]
                case y4 => exact R_named.mk st.tk.p 1 (sgl ++ st.sets.map (·.1)) (by omega)
              case x2 =>
                refine ws_seq (ρ1 := [.cell 0, .dat (encL sgl), .cell 1, .cell 2, .dat (.int (0 + (i : Nat))), .dat (encL st.tk.both), .un, .dat (.str (st.label sgl)), .un]) (μ1 := [potC (labelP st.tk.p), .lst (st.tk.blocks.map encL), .dic (setsD (st.sets ++ [(st.label sgl, sgl.filter fun x => decide (x ∈ st.tk.both))]))]) ?z1 ?z2
                case z1 =>
                  refine ws_eqm (ws_asg (ev_lcF (α := Str) (enc := .str) (xs := sgl) (p := fun x => decide (x ∈ st.tk.both)) (f := fun x => D.str x) (evi_list (ev_var 1 rfl (by simp))) ?u1 ?u2 (fun F' a => evg_name 8) (fun F' a _ => evt_test (ev_op opd_inS (ev_var 8 rfl (by simp)) (ev_var 5 rfl (by simp)))) (fun F' a _ _ => ev_var 8 rfl (by simp))) (wg_subD (k := .inr (st.label sgl)) (es := setsD st.sets) (ev_var 3 rfl (by simp)) (ev_var 7 rfl (by simp)) rfl ?u3)) ?u4
                  case u1 =>
                    intro i hi
                    cases List.mem_singleton.mp hi
                    rfl
                  case u2 => omega
                  case u3 =>
                    unfold setsD
                    rw [List.length_map]
                    exact Nat.lt_of_lt_of_le (show _ < (1000 : Nat) by omega) hs1000
                  case u4 =>
                    rw [← setsD_put hnew]
                    rfl
                case z2 =>
                  refine ws_drop (ev_eqm (ev_mut (ds := st.tk.blocks.map encL) (es := [encL st.tk.both]) (md_append ?v1) (ev_var 2 rfl (by simp)) (eva_cons (ev_var 5 rfl (by simp)) eva_nil) ⟨_, rfl⟩ rfl) ?v2)
                  case v1 =>
                    rw [List.length_map]
                    exact Nat.lt_of_lt_of_le (show _ < (1000 : Nat) by omega) hs1000
                  case v2 =>
                    rw [List.map_append]
                    rfl
          · have e0 : st.next sgl = st := if_neg hb
            rw [e0]
            have hdec : decide ((1 : Int) < (((st.blocks.map encL).length : Nat) : Int)) = false := by
              rw [List.length_map]
              exact decide_eq_false (by omega)
            exact ws_if (b := false) (ev_teq (evt_test (ev_op opd_gt (ev_cbC cd_len rfl (eva_cons (ev_var 2 rfl (by simp)) eva_nil) rfl) (ev_int _))) hdec) (fun e => by cases e) (fun _ => ws_next)
      · have hz := Wd.sets_len sgl s0 rfl (q.draw 5)
        refine ev_eqd (ev_disp (es := [(.inr ("singles" : Str), encL sgl), (.inr ("sets" : Str), .dic (setsD (s0.many sgl (q.draw 5)).sets))]) (fun F' => evps_cons (ev_str _) (ev_var 1 rfl (by simp)) (evps_cons (ev_str _) (ev_freeK (ev_var 3 rfl (by simp)) rfl) evps_nil)) (show (2 : Nat) ≤ 15 by decide)) ?_
        exact congrArg D.dic (merge_2 (by decide))
end
end Dl
end
section
set_option Elab.async false
set_option maxRecDepth 100000
set_option linter.all false
namespace Dl
open PySem L2
/-! ### == of nested data -/
theorem pyDs_map {α : Type} (e : α → D) (f : α → PyData) (h : ∀ a, pyD (e a) = some (f a)) : ∀ xs : List α, pyDs (xs.map e) = some (xs.map f)
  | [] => by simp [pyDs]
  | x :: xs => by simp only [List.map_cons, pyDs, h x, pyDs_map e f h xs]
theorem pyD_strs (xs : List Str) : pyD (.lst (xs.map .str)) = some (.list (xs.map .str)) := by
  simp only [pyD]
  rw [pyDs_map D.str PyData.str (fun a => by simp only [pyD]) xs]
  rfl
mutual
theorem pyD_plain : ∀ {d : D} {p : PyData}, pyD d = some p → p.plain = true
  | .non, _, e => by simp only [pyD] at e; cases e; rfl
  | .bl b, _, e => by simp only [pyD] at e; cases e; rfl
  | .int i, _, e => by simp only [pyD] at e; cases e; rfl
  | .str x, _, e => by simp only [pyD] at e; cases e; rfl
  | .lst ds, _, e => by
    simp only [pyD] at e
    cases h : pyDs ds with
    | none => rw [h] at e; cases e
    | some ps => rw [h] at e; cases e; simp only [PyData.plain]; exact pyDs_plain h
  | .tup ds, _, e => by
    simp only [pyD] at e
    cases h : pyDs ds with
    | none => rw [h] at e; cases e
    | some ps => rw [h] at e; cases e; simp only [PyData.plain]; exact pyDs_plain h
  | .dic _, _, e => by simp only [pyD] at e; cases e
  | .ins _ _, _, e => by simp only [pyD] at e; cases e
theorem pyDs_plain : ∀ {ds : List D} {ps : List PyData}, pyDs ds = some ps → PyData.plainAll ps = true
  | [], _, e => by simp only [pyDs] at e; cases e; rfl
  | d :: ds, _, e => by
    simp only [pyDs] at e
    cases h : pyD d with
    | none => rw [h] at e; cases e
    | some p =>
      cases h2 : pyDs ds with
      | none => rw [h, h2] at e; cases e
      | some ps =>
        rw [h, h2] at e
        cases e
        simp only [PyData.plainAll, pyD_plain h, pyDs_plain h2, Bool.and_self]
end
theorem depthAll_map {α : Type} (f : α → PyData) {n : Nat} (h : ∀ a, (f a).depth ≤ n) : ∀ xs : List α, PyData.depthAll (xs.map f) ≤ n
  | [] => by simp [PyData.depthAll]
  | x :: xs => by
    have := depthAll_map f h xs
    have := h x
    simp only [List.map_cons, PyData.depthAll]
    omega
theorem depth_strs (xs : List Str) : (PyData.list (xs.map .str)).depth ≤ 1 := by
  have := depthAll_map PyData.str (n := 0) (fun a => by simp [PyData.depth]) xs
  simp only [PyData.depth]
  omega
theorem eqvAll_map {α : Type} [DecidableEq α] (f : α → PyData) (h : ∀ a b, PyData.eqv (f a) (f b) = decide (a = b)) : ∀ xs ys : List α, PyData.eqvAll (xs.map f) (ys.map f) = decide (xs = ys)
  | [], [] => by simp [PyData.eqvAll]
  | x :: xs, [] => by simp [PyData.eqvAll]
  | [], y :: ys => by simp [PyData.eqvAll]
  | x :: xs, y :: ys => by
    simp only [List.map_cons, PyData.eqvAll, h x y, eqvAll_map f h xs ys]
    by_cases e : x = y <;> by_cases e2 : xs = ys <;> simp [e, e2]
theorem eqv_strs (xs ys : List Str) : PyData.eqv (.list (xs.map .str)) (.list (ys.map .str)) = decide (xs = ys) := by
  simp only [PyData.eqv]
  exact eqvAll_map PyData.str (fun a b => by
    simp only [PyData.eqv]
    rw [Bool.eq_iff_iff]
    simp) xs ys
def rEqP (K : PySem.W.Frag) : R2 := fun x y H Q => ∃ d e, Dp K H x d ∧ Dp K H y e ∧ d.plain = true ∧ e.plain = true ∧ d.depth ≤ 60 ∧ Q (.bl (PyData.eqv d e)) H
def rNeP (K : PySem.W.Frag) : R2 := fun x y H Q => ∃ d e, Dp K H x d ∧ Dp K H y e ∧ d.plain = true ∧ e.plain = true ∧ d.depth ≤ 60 ∧ Q (.bl (!PyData.eqv d e)) H
section
variable {X : Cx} {K : PySem.W.Frag} (e : X.K = K) (hu : X.A.units + 64 < cLine)
include e hu
theorem k_eqD : OpR X (compareOp .Eq) (rEqP K) := by
  subst e
  intro pins s σ H x y v u Q I rx ry h
  obtain ⟨d, e, hd, he, sd, se, dd, q⟩ := h
  obtain ⟨as, r1⟩ := Dp.reads I d x v hd rx
  obtain ⟨bs, r2⟩ := Dp.reads I e y u he ry
  exact SeqAt.eq_plain r1 r2 sd se (by have := Nat.min_le_left d.depth e.depth; omega) ⟨.bl _, H, I, rfl, q⟩
theorem k_neD : OpR X (compareOp .NotEq) (rNeP K) := by
  subst e
  intro pins s σ H x y v u Q I rx ry h
  obtain ⟨d, e, hd, he, sd, se, dd, q⟩ := h
  obtain ⟨as, r1⟩ := Dp.reads I d x v hd rx
  obtain ⟨bs, r2⟩ := Dp.reads I e y u he ry
  exact SeqAt.ne_plain r1 r2 sd se (by have := Nat.min_le_left d.depth e.depth; omega) ⟨.bl _, H, I, rfl, q⟩
end
theorem opd_neD {K : PySem.W.Frag} {d1 d2 : D} {p1 p2 : PyData} {b : Bool} (h1 : pyD d1 = some p1) (h2 : pyD d2 = some p2) (hd : p1.depth ≤ 60) (hb : PyData.eqv p1 p2 = b) : OpD (rNeP K) d1 d2 (.bl (!b)) := fun z H v1 v2 lv x y Q k => by
  subst hb
  exact ⟨p1, p2, x.dp h1, y.dp h2, pyD_plain h1, pyD_plain h2, hd, k _ H (fun _ _ e => e) (.bl _)⟩
theorem opd_eqD {K : PySem.W.Frag} {d1 d2 : D} {p1 p2 : PyData} {b : Bool} (h1 : pyD d1 = some p1) (h2 : pyD d2 = some p2) (hd : p1.depth ≤ 60) (hb : PyData.eqv p1 p2 = b) : OpD (rEqP K) d1 d2 (.bl b) := fun z H v1 v2 lv x y Q k => by
  subst hb
  exact ⟨p1, p2, x.dp h1, y.dp h2, pyD_plain h1, pyD_plain h2, hd, k _ H (fun _ _ e => e) (.bl _)⟩
theorem opd_neStrs {K : PySem.W.Frag} {xs ys : List Str} : OpD (rNeP K) (.lst (xs.map .str)) (.lst (ys.map .str)) (.bl (!decide (xs = ys))) := opd_neD (pyD_strs xs) (pyD_strs ys) (Nat.le_trans (depth_strs xs) (by decide)) (eqv_strs xs ys)
theorem opd_eqStrs {K : PySem.W.Frag} {xs ys : List Str} : OpD (rEqP K) (.lst (xs.map .str)) (.lst (ys.map .str)) (.bl (decide (xs = ys))) := opd_eqD (pyD_strs xs) (pyD_strs ys) (Nat.le_trans (depth_strs xs) (by decide)) (eqv_strs xs ys)
end Dl
end
section
set_option Elab.async false
set_option maxRecDepth 100000
set_option maxHeartbeats 4000000
set_option linter.all false
namespace Dl
open PySem L2
/-! ### what the law asks of a model -/
def Mdl.labels (M : Mdl) : List Str := M.sgl ++ sortS (M.sets.map (·.1))
def Mdl.mem (M : Mdl) (l : Str) : List Str := ((M.sets.find? fun e => decide (e.1 = l)).map (·.2)).getD [l]
def Mdl.inner (M : Mdl) (asked : List Str) (l : Str) : List Str := asked.filter fun x => !decide (x = l) && (M.mem x).all fun s => decide (s ∈ M.mem l)
def Mdl.covered (M : Mdl) (asked : List Str) (l : Str) : List Str := (M.inner asked l).flatMap M.mem
def Mdl.full (M : Mdl) (asked : List Str) (l : Str) : Bool := !decide (M.covered asked l = []) && (M.mem l).all fun s => decide (s ∈ M.covered asked l)
def Mdl.sorted (M : Mdl) (some : List Str) : List Str := M.labels.filter fun l => decide (l ∈ some)
/-- small enough for all walks -/
structure Mdl.Small (M : Mdl) : Prop where
  sgl : M.sgl.length ≤ 5
  sets : M.sets.length ≤ 4
  each : ∀ e ∈ M.sets, e.2.length ≤ 5
theorem sortS_len (xs : List Str) : (sortS xs).length = xs.length := List.length_mergeSort _
theorem Mdl.Small.labels {M : Mdl} (h : M.Small) : M.labels.length ≤ 9 := by
  unfold Mdl.labels
  rw [List.length_append, sortS_len, List.length_map]
  have := h.sgl
  have := h.sets
  omega
theorem Mdl.Small.mem {M : Mdl} (h : M.Small) (l : Str) : (M.mem l).length ≤ 5 := by
  unfold Mdl.mem
  cases e : M.sets.find? fun e => decide (e.1 = l) with
  | none => simp
  | some x => exact h.each x (List.mem_of_find?_eq_some e)
theorem look_sets (ss : List (Str × List Str)) (l : Str) : lookD (setsD ss) (.inr l) = (ss.find? fun e => decide (e.1 = l)).map fun e => encL e.2 := by
  unfold lookD setsD
  rw [List.find?_map, Option.map_map]
  have : ((fun e : Key × D => decide (e.1 = Sum.inr l)) ∘ fun e : Str × List Str => ((Sum.inr e.1 : Key), encL e.2)) = fun e => decide (e.1 = l) := by
    funext e
    simp
  rw [this]
  rfl
theorem mem_sets (M : Mdl) (l : Str) : (lookD (setsD M.sets) (.inr l)).getD (encL [l]) = encL (M.mem l) := by
  rw [look_sets]
  unfold Mdl.mem
  cases M.sets.find? fun e => decide (e.1 = l) <;> rfl
theorem look_sgl (M : Mdl) : lookD [(.inr ("singles" : Str), encL M.sgl), (.inr ("sets" : Str), .dic (setsD M.sets))] (.inr ("singles" : Str)) = some (encL M.sgl) := by
  exact lookD_pos rfl
theorem look_set (M : Mdl) : lookD [(.inr ("singles" : Str), encL M.sgl), (.inr ("sets" : Str), .dic (setsD M.sets))] (.inr ("sets" : Str)) = some (.dic (setsD M.sets)) := by
  rw [lookD_neg (by show ¬ (Sum.inr _ : Key) = Sum.inr _; decide)]
  exact lookD_pos rfl
inductive R_labels : List D → D → Prop
  | mk (M : Mdl) (h : M.Small) : R_labels [mdlD M] (encL M.labels)
inductive R_members : List D → D → Prop
  | mk (M : Mdl) (l : Str) : R_members [mdlD M, .str l] (encL (M.mem l))
inductive R_sorted : List D → D → Prop
  | mk (M : Mdl) (h : M.Small) (some : List Str) : R_sorted [mdlD M, encL some] (encL (M.sorted some))
inductive R_inner : List D → D → Prop
  | mk (M : Mdl) (h : M.Small) (asked : List Str) (l : Str) (ha : asked.length ≤ 60) : R_inner [mdlD M, encL asked, .str l] (encL (M.inner asked l))
inductive R_full : List D → D → Prop
  | mk (M : Mdl) (h : M.Small) (asked : List Str) (l : Str) (ha : asked.length ≤ 60) : R_full [mdlD M, encL asked, .str l] (.bl (M.full asked l))
section
variable {P : Program} {w : World} {K : PySem.W.Frag} {mg : Str → Option Value} {base : Heap}
theorem lt_u64 {a k c : Nat} (h : a + 16 * k + 200 < c) : a + 64 < c := by omega
abbrev s_law_labels : Stmt := top 44
theorem sc_law_labels : FnScope ["_law_model"] ["_law_model"] (C8.fnScope s_law_labels) := C8.fnScope_by (by decide +kernel)
theorem ok_labels {f : Addr} {fd : FuncData} (Fd : C8.Def K mg "_law_labels" s_law_labels f fd) (b : Binds K fd ["_law_model"] []) (T : Bi mg) : C8.Cal P w K mg base 1 "_law_labels" (spF R_labels) [] := by
  refine C8.cal0 Fd b .nil sc_law_labels (len_F fun ds d h => by cases h; rfl) fun cdv A outer s H vs Q E hr h => ?_
  refine ⟨_, (pss_one (ps_ret (pe_op op_cat (pe_dget (lt_units (k := 0) hr.un) (pv 0) pe_str (fun _ _ => rfl)) (pe_sortedStr (lt_u64 (k := 0) hr.un) (by rfl) T.b_sorted (pa_cons (pe_callTy (call_listD rfl) (by rfl) T.b_list (by decide +kernel) (pa_cons (pe_dget (lt_units (k := 0) hr.un) (pv 0) pe_str (fun _ _ => rfl)) pa_nil)) pa_nil) (pk_cons (pe_bltn (u := .type "str") (by rfl) T.b_str (by decide +kernel) rfl) pk_nil))))), run_F h ?_⟩
  rintro _ _ ⟨M, hM⟩ F -
  refine ⟨_, .rt [], ?_⟩
  have e : encL M.labels = .lst (M.sgl.map .str ++ (sortS (M.sets.map (·.1))).map .str) := by rw [← List.map_append]; rfl
  rw [e]
  refine ws_ret (ev_op (opd_cat ?_) (ev_dget (look_sgl M) (ev_var 0 rfl (by simp)) (ev_str _)) (ev_sortedStr (ev_eqd (ev_cb (ds := [_]) cd_listD (eva_cons (ev_dget (look_set M) (ev_var 0 rfl (by simp)) (ev_str _)) eva_nil)) (congrArg D.lst (setsD_keys M.sets)))))
  rw [List.length_map, List.length_map, sortS_len, List.length_map]
  have := hM.sgl
  have := hM.sets
  exact Nat.le_trans (show _ ≤ (1000 : Nat) by omega) (by decide)
abbrev s_law_members : Stmt := top 45
theorem sc_law_members : FnScope ["_law_model", "_law_label"] ["_law_model", "_law_label"] (C8.fnScope s_law_members) := C8.fnScope_by (by decide +kernel)
theorem ok_members {f : Addr} {fd : FuncData} (Fd : C8.Def K mg "_law_members" s_law_members f fd) (b : Binds K fd ["_law_model", "_law_label"] []) (T : Bi mg) : C8.Cal P w K mg base 1 "_law_members" (spF R_members) [] := by
  refine C8.cal0 Fd b .nil sc_law_members (len_F fun ds d h => by cases h; rfl) fun cdv A outer s H vs Q E hr h => ?_
  refine ⟨_, (pss_one (ps_ret (pe_dget2 (lt_units (k := 0) hr.un) (pe_dget (lt_units (k := 0) hr.un) (pv 0) pe_str (fun _ _ => rfl)) (pv 1) (pe_lst (pa_cons (pv 1) pa_nil)) ⟨rfl, rfl, rfl, rfl⟩))), run_F h ?_⟩
  rintro _ _ ⟨M, l⟩ F -
  refine ⟨_, .rt [], ?_⟩
  rw [← mem_sets]
  exact ws_ret (ev_dget2 (k := .inr l) (ev_dget (look_set M) (ev_var 0 rfl (by simp)) (ev_str _)) (ev_var 1 rfl (by simp)) (ev_lst (ds := [.str l]) (eva_cons (ev_var 1 rfl (by simp)) eva_nil) (Nat.le_trans (show 1 ≤ 3 by decide) (by decide))))
abbrev s_law_sorted_labels : Stmt := top 48
theorem sc_law_sorted_labels : FnScope ["_law_model", "_law_some", "_law_label"] ["_law_model", "_law_some"] (C8.fnScope s_law_sorted_labels) := C8.fnScope_by (by decide +kernel)
theorem ok_sorted {f : Addr} {fd : FuncData} (Fd : C8.Def K mg "_law_sorted_labels" s_law_sorted_labels f fd) (b : Binds K fd ["_law_model", "_law_some"] []) (T : Bi mg) (c_law_labels : C8.Cal P w K mg base 1 "_law_labels" (spF R_labels) []) : C8.Cal P w K mg base 2 "_law_sorted_labels" (spF R_sorted) [] := by
  refine C8.cal0 Fd b .nil sc_law_sorted_labels (len_F fun ds d h => by cases h; rfl) fun cdv A outer s H vs Q E hr h => ?_
  refine ⟨_, (pss_one (ps_ret (pe_lc (own := [("_law_label", 2)]) (g := gName 2) rfl sc_law_sorted_labels.nd (pi_list (C8.pe_c c_law_labels hr (by decide) rfl (pa_cons (pv 0) pa_nil))) (blkOk_by (N := ["_law_model", "_law_some", "_law_label"]) (sc := C8.fnScope s_law_sorted_labels) (by decide +kernel)) (fun _ _ _ _ _ => (pg_name (i := 2) sc_law_sorted_labels.nd rfl (by first | exact Or.inl rfl | exact Or.inr rfl))) (fun _ _ _ _ _ => (pts_one (pt_cmpR (k_in rfl) (pv 2) (pv 1) (by rfl)))) (fun _ _ _ _ _ => (pv 2))))), run_F h ?_⟩
  rintro _ _ ⟨M, hM, some⟩ F -
  refine ⟨_, .rt [], ?_⟩
  refine ws_ret (ev_lcF (α := Str) (enc := .str) (xs := M.labels) (p := fun x => decide (x ∈ some)) (f := fun x => D.str x) (evi_list (ev_callF (ds := [mdlD M]) (R_labels.mk M hM) (eva_cons (ev_var 0 rfl (by simp)) eva_nil))) ?_ ?_ (fun F' z => evg_name 2) (fun F' z hx => (evt_test (ev_op opd_inS (ev_var 2 rfl (by simp)) (ev_var 1 rfl (by simp))))) (fun F' z hx hp => (ev_var 2 rfl (by simp))))
  · intro i hi
    cases List.mem_singleton.mp hi
    rfl
  · have := hM.labels
    omega
abbrev s_law_inner : Stmt := top 49
theorem sc_law_inner : FnScope ["_law_model", "_law_asked", "_law_label", "_law_inside", "_law_found", "_law_less", "_law_single"] ["_law_model", "_law_asked", "_law_label"] (C8.fnScope s_law_inner) := C8.fnScope_by (by decide +kernel)
theorem ok_inner {f : Addr} {fd : FuncData} (Fd : C8.Def K mg "_law_inner" s_law_inner f fd) (b : Binds K fd ["_law_model", "_law_asked", "_law_label"] []) (T : Bi mg) (c_law_members : C8.Cal P w K mg base 1 "_law_members" (spF R_members) []) : C8.Cal P w K mg base 2 "_law_inner" (spF R_inner) [] := by
  refine C8.cal0 Fd b .nil sc_law_inner (len_F fun ds d h => by cases h; rfl) fun cdv A outer s H vs Q E hr h => ?_
  refine ⟨_, (pss_cons (ps_set (i := 3) sc_law_inner.nd rfl (by first | exact Or.inl rfl | exact Or.inr rfl) (C8.pe_c c_law_members hr (by decide) rfl (pa_cons (pv 0) (pa_cons (pv 2) pa_nil))))
      (pss_cons (ps_set (i := 4) sc_law_inner.nd rfl (by first | exact Or.inl rfl | exact Or.inr rfl) (pe_lst pa_nil))
      (pss_cons (ps_for PassesOwn.never rfl (pi_list (pv 1)) (pg_name (i := 5) sc_law_inner.nd rfl (by first | exact Or.inl rfl | exact Or.inr rfl))
      (pss_one (ps_if (PW.pt (pw_and (pt_cmpR op_ne (pv 5) (pv 2) (nomark _)) (pw_and1 (pt_val (pe_callB (k_all rfl rfl) (by rfl) T.b_all (by decide +kernel) (pa_cons (pe_lc (own := [("_law_single", 6)]) (g := gName 6) (tt := tYes) rfl sc_law_inner.nd (pi_list (C8.pe_c c_law_members hr (by decide) rfl (pa_cons (pv 0) (pa_cons (pv 5) pa_nil)))) (blkOk_by (N := ["_law_model", "_law_asked", "_law_label", "_law_inside", "_law_found", "_law_less", "_law_single"]) (sc := C8.fnScope s_law_inner) (by decide +kernel)) (fun _ _ _ _ _ => (pg_name (i := 6) sc_law_inner.nd rfl (by first | exact Or.inl rfl | exact Or.inr rfl))) (fun _ _ _ _ _ => pts_nil) (fun _ _ _ _ _ => (pe_cmpR (k_in rfl) (pv 6) (pv 3) (by rfl)))) pa_nil))))))
      (pss_one (ps_expr (pe_bm PySem.F.plainAttrs_list PySem.F.slot_list_append PySem.F.type_list_append mt_append (pv 4) (pa_cons (pv 5) pa_nil)))) pss_nil)))
      (pss_one (ps_ret (pv 4)))))), run_F h ?_⟩
  rintro _ _ ⟨M, hM, asked, l, ha⟩ F -
  refine ⟨_, .rt [.dead], ?_⟩
  have hs1000 : (1000 : Nat) ≤ sizeLine := by decide
  refine ws_seq (ws_set 3 (ev_callF (ds := [mdlD M, .str l]) (R_members.mk M l) (eva_cons (ev_var 0 rfl (by simp)) (eva_cons (ev_var 2 rfl (by simp)) eva_nil)))) ?_
  refine ws_seq (ws_set 4 (ev_lstO (ds := []) eva_nil (by decide) 0 rfl)) ?_
  let g : Str → Bool := fun x => !decide (x = l) && (M.mem x).all fun s => decide (s ∈ M.mem l)
  let S : Nat → List Slot × List Cell := fun i => ([.dat (mdlD M), .dat (encL asked), .dat (.str l), .dat (encL (M.mem l)), .cell 0, .un, .un], [.lst (fmI g D.str asked i)])
  have hfin : fmI g D.str asked asked.length = (M.inner asked l).map .str := by
    unfold fmI
    rw [List.take_length]
    rfl
  refine ws_seq (ρ1 := (S asked.length).1) (μ1 := (S asked.length).2) ?_ (ws_ret (ev_eqd (ev_free (k := 0) (ds := fmI g D.str asked asked.length) (ev_var 4 rfl (by simp)) rfl) (congrArg D.lst hfin)))
  refine ws_forN asked.length [5] S (evi_list (xs := asked.map .str) (ev_var 1 rfl (by simp))) rfl (List.length_map _) ?turn
  case turn =>
    intro i d hd
    rw [List.getElem?_map] at hd
    obtain ⟨a, ea, rfl⟩ := Option.map_eq_some_iff.mp hd
    have hi : i < asked.length := (List.getElem?_eq_some_iff.mp ea).1
    have es : S (i + 1) = ([.dat (mdlD M), .dat (encL asked), .dat (.str l), .dat (encL (M.mem l)), .cell 0, .un, .un], [.lst (fmI g D.str asked i ++ if g a = true then [D.str a] else [])]) := by
      show (_, [Cell.lst (fmI g D.str asked (i + 1))]) = _
      rw [fmI_succ g D.str ea]
    have eS : S i = ([.dat (mdlD M), .dat (encL asked), .dat (.str l), .dat (encL (M.mem l)), .cell 0, .un, .un], [.lst (fmI g D.str asked i)]) := rfl
    rw [es, eS]
    dsimp only
    clear es eS hfin
    clear_value S
    have hacc : (fmI g D.str asked i).length ≤ 60 := by
      unfold fmI
      rw [List.length_map]
      refine Nat.le_trans (List.length_filter_le _ _) ?_
      rw [List.length_take]
      omega
    generalize fmI g D.str asked i = acc at hacc ⊢
    refine ⟨_, evg_name 5, .inl (ws_weak (ρ1 := [.dat (mdlD M), .dat (encL asked), .dat (.str l), .dat (encL (M.mem l)), .cell 0, .dat (.str a), .un]) ?_ ?_)⟩
    rotate_left
    · repeat first | exact .nil | refine .cons (.inl rfl) ?_ | refine .cons (.inr rfl) ?_
    refine ws_if (b := g a) (ev_tmu (evt_and (evt_test (ev_op opd_neS (ev_var 5 rfl (by simp)) (ev_var 2 rfl (by simp)))) fun h => (evt_val (ev_allF (α := Str) (enc := .str) (xs := M.mem a) (q := fun s => decide (s ∈ M.mem l)) (evi_list (ev_callF (ds := [mdlD M, .str a]) (R_members.mk M a) (eva_cons (ev_var 0 rfl (by simp)) (eva_cons (ev_var 5 rfl (by simp)) eva_nil)))) ?_ ?_ (fun F' z => evg_name 6) (fun F' z hx => (ev_op opd_inS (ev_var 6 rfl (by simp)) (ev_var 3 rfl (by simp))))))) (by split <;> rfl)) ?_ ?_
    · intro i hi
      cases List.mem_singleton.mp hi
      rfl
    · have := hM.mem a
      omega
    · intro hg
      rw [if_pos hg]
      exact ws_drop (ev_eqm (ev_mut (ds := acc) (es := [.str a]) (md_append (Nat.lt_of_lt_of_le (show _ < (1000 : Nat) by omega) hs1000)) (ev_var 4 rfl (by simp)) (eva_cons (ev_var 5 rfl (by simp)) eva_nil) ⟨_, rfl⟩ rfl) rfl)
    · intro hg
      rw [if_neg (by rw [hg]; decide), List.append_nil]
      exact ws_next
abbrev s_law_is_full : Stmt := top 50
theorem sc_law_is_full : FnScope ["_law_model", "_law_asked", "_law_label", "_law_covered", "_law_less", "_law_single"] ["_law_model", "_law_asked", "_law_label"] (C8.fnScope s_law_is_full) := C8.fnScope_by (by decide +kernel)
theorem ok_full {f : Addr} {fd : FuncData} (Fd : C8.Def K mg "_law_is_full" s_law_is_full f fd) (b : Binds K fd ["_law_model", "_law_asked", "_law_label"] []) (T : Bi mg) (c_law_members : C8.Cal P w K mg base 1 "_law_members" (spF R_members) []) (c_law_inner : C8.Cal P w K mg base 2 "_law_inner" (spF R_inner) []) : C8.Cal P w K mg base 3 "_law_is_full" (spF R_full) [] := by
  refine C8.cal0 Fd b .nil sc_law_is_full (len_F fun ds d h => by cases h; rfl) fun cdv A outer s H vs Q E hr h => ?_
  refine ⟨_, (pss_cons (ps_set (i := 3) sc_law_is_full.nd rfl (by first | exact Or.inl rfl | exact Or.inr rfl) (pe_lst pa_nil))
      (pss_cons (ps_for PassesOwn.never rfl (pi_list (C8.pe_c c_law_inner hr (by decide) rfl (pa_cons (pv 0) (pa_cons (pv 1) (pa_cons (pv 2) pa_nil))))) (pg_name (i := 4) sc_law_is_full.nd rfl (by first | exact Or.inl rfl | exact Or.inr rfl))
      (pss_one (ps_set (i := 3) sc_law_is_full.nd rfl (by first | exact Or.inl rfl | exact Or.inr rfl) (pe_op op_cat (pv 3) (C8.pe_c c_law_members hr (by decide) rfl (pa_cons (pv 0) (pa_cons (pv 4) pa_nil)))))))
      (pss_one (ps_ret (pe_and (pe_cmpR (k_neD rfl (lt_u64 (k := 2) hr.un)) (pv 3) (pe_lst pa_nil) (nomark _)) (pe_one (pe_callB (k_all rfl rfl) (by rfl) T.b_all (by decide +kernel) (pa_cons (pe_lc (own := [("_law_single", 5)]) (g := gName 5) (tt := tYes) rfl sc_law_is_full.nd (pi_list (C8.pe_c c_law_members hr (by decide) rfl (pa_cons (pv 0) (pa_cons (pv 2) pa_nil)))) (blkOk_by (N := ["_law_model", "_law_asked", "_law_label", "_law_covered", "_law_less", "_law_single"]) (sc := C8.fnScope s_law_is_full) (by decide +kernel)) (fun _ _ _ _ _ => (pg_name (i := 5) sc_law_is_full.nd rfl (by first | exact Or.inl rfl | exact Or.inr rfl))) (fun _ _ _ _ _ => pts_nil) (fun _ _ _ _ _ => (pe_cmpR (k_in rfl) (pv 5) (pv 3) (by rfl)))) pa_nil)))))))), run_F h ?_⟩
  rintro _ _ ⟨M, hM, asked, l, ha⟩ F -
  refine ⟨_, .rt [], ?_⟩
  have hs1000 : (1000 : Nat) ≤ sizeLine := by decide
  refine ws_seq (ws_set 3 (ev_lst (ds := []) eva_nil (by decide))) ?_
  have hin : (M.inner asked l).length ≤ 60 := Nat.le_trans (List.length_filter_le _ _) ha
  let S : Nat → List Slot × List Cell := fun i => ([.dat (mdlD M), .dat (encL asked), .dat (.str l), .dat (encL (((M.inner asked l).take i).flatMap M.mem)), .un, .un], [])
  have hS : S (M.inner asked l).length = ([.dat (mdlD M), .dat (encL asked), .dat (.str l), .dat (encL (M.covered asked l)), .un, .un], []) := by
    show (_, _) = _
    rw [List.take_length]
    rfl
  refine ws_seq (ρ1 := (S (M.inner asked l).length).1) (μ1 := (S (M.inner asked l).length).2) ?_ ?_
  · refine ws_forN (M.inner asked l).length [4] S (evi_list (xs := (M.inner asked l).map .str) (ev_callF (ds := [mdlD M, encL asked, .str l]) (R_inner.mk M hM asked l ha) (eva_cons (ev_var 0 rfl (by simp)) (eva_cons (ev_var 1 rfl (by simp)) (eva_cons (ev_var 2 rfl (by simp)) eva_nil))))) rfl (List.length_map _) ?turn
    case turn =>
      intro i d hd
      rw [List.getElem?_map] at hd
      obtain ⟨a, ea, rfl⟩ := Option.map_eq_some_iff.mp hd
      have hi : i < (M.inner asked l).length := (List.getElem?_eq_some_iff.mp ea).1
      have es : S (i + 1) = ([.dat (mdlD M), .dat (encL asked), .dat (.str l), .dat (.lst ((((M.inner asked l).take i).flatMap M.mem).map .str ++ (M.mem a).map .str)), .un, .un], []) := by
        show ([_, _, _, Slot.dat (encL (((M.inner asked l).take (i + 1)).flatMap M.mem)), _, _], _) = _
        rw [List.take_add_one, ea, Option.toList_some, List.flatMap_append, ← List.map_append]
        simp [encL]
      have eS : S i = ([.dat (mdlD M), .dat (encL asked), .dat (.str l), .dat (encL (((M.inner asked l).take i).flatMap M.mem)), .un, .un], []) := rfl
      rw [es, eS]
      dsimp only
      clear es eS hS
      clear_value S
      have hacc : (((M.inner asked l).take i).flatMap M.mem).length ≤ 5 * i := by
        have hl : ∀ xs : List Str, (xs.flatMap M.mem).length ≤ 5 * xs.length := fun xs => by
          induction xs with
          | nil => simp
          | cons x xs ih =>
            rw [List.flatMap_cons, List.length_append, List.length_cons]
            have := hM.mem x
            omega
        refine Nat.le_trans (hl _) ?_
        rw [List.length_take]
        omega
      generalize ((M.inner asked l).take i).flatMap M.mem = acc at hacc ⊢
      have hm := hM.mem a
      refine ⟨_, evg_name 4, .inl (ws_weak (ρ1 := [.dat (mdlD M), .dat (encL asked), .dat (.str l), .dat (.lst (acc.map .str ++ (M.mem a).map .str)), .dat (.str a), .un]) ?_ ?_)⟩
      rotate_left
      · repeat first | exact .nil | refine .cons (.inl rfl) ?_ | refine .cons (.inr rfl) ?_
      refine ws_set 3 (ev_op (opd_cat ?_) (ev_var 3 rfl (by simp)) (ev_callF (ds := [mdlD M, .str a]) (R_members.mk M a) (eva_cons (ev_var 0 rfl (by simp)) (eva_cons (ev_var 4 rfl (by simp)) eva_nil))))
      rw [List.length_map, List.length_map]
      exact Nat.le_trans (show _ ≤ (1000 : Nat) by omega) hs1000
  · rw [hS]
    dsimp only
    refine ws_ret (ev_and (ev_op (opd_neStrs (ys := [])) (ev_var 3 rfl (by simp)) (ev_lst (ds := []) eva_nil (by decide))) fun h => (ev_allF (α := Str) (enc := .str) (xs := M.mem l) (q := fun s => decide (s ∈ M.covered asked l)) (evi_list (ev_callF (ds := [mdlD M, .str l]) (R_members.mk M l) (eva_cons (ev_var 0 rfl (by simp)) (eva_cons (ev_var 2 rfl (by simp)) eva_nil)))) ?_ ?_ (fun F' z => evg_name 5) (fun F' z hx => (ev_op opd_inS (ev_var 5 rfl (by simp)) (ev_var 3 rfl (by simp))))))
    · intro i hi
      cases List.mem_singleton.mp hi
      rfl
    · have := hM.mem l
      omega
end
end Dl
end
section
set_option Elab.async false
set_option maxRecDepth 100000
set_option maxHeartbeats 4000000
set_option linter.all false
namespace Dl
open PySem L2
/-! ### a mixed part of the labels -/
structure Mx where
  p : Pot
  spare : List Str
  found : List Str
def Mx.next (s : Mx) : Mx := ⟨s.p.next s.spare.length, s.spare.eraseIdx (s.p.draw s.spare.length), s.found ++ [s.spare.getD (s.p.draw s.spare.length) ""]⟩
def Mx.many (s : Mx) : Nat → Mx
  | 0 => s
  | i + 1 => (s.many i).next
def mixed (p : Pot) (ls : List Str) (most : Nat) : Mx := Mx.many ⟨p.next (most + 1), ls, []⟩ (min (p.draw (most + 1)) ls.length)
theorem Mx.perm (s : Mx) : ∀ n, n ≤ s.spare.length → ((s.many n).found ++ (s.many n).spare).Perm (s.found ++ s.spare) ∧ (s.many n).spare.length = s.spare.length - n
  | 0, _ => ⟨List.Perm.refl _, rfl⟩
  | n + 1, h => by
    obtain ⟨ih, hl⟩ := Mx.perm s n (by omega)
    show ((s.many n).next.found ++ (s.many n).next.spare).Perm _ ∧ (s.many n).next.spare.length = _
    generalize s.many n = t at hl ih ⊢
    unfold Mx.next
    have hj := Pot.draw_lt t.p (m := t.spare.length) (by omega)
    generalize t.p.draw t.spare.length = j at hj ⊢
    have e : t.spare[j]? = some (t.spare.getD j "") := by
      rw [List.getD_eq_getElem?_getD, List.getElem?_eq_getElem hj]
      rfl
    have q := erase_perm e
    refine ⟨?_, ?_⟩
    · refine List.Perm.trans ?_ ih
      show ((t.found ++ [t.spare.getD j ""]) ++ t.spare.eraseIdx j).Perm _
      rw [List.append_assoc]
      exact q.append_left t.found
    · show (t.spare.eraseIdx j).length = _
      rw [List.length_eraseIdx_of_lt hj]
      omega
inductive R_mixed : Pot → List D → D → Pot → Prop
  | mk (p : Pot) (ls : List Str) (most : Nat) (h : ls.length ≤ 60) (hm : most ≤ 60) : R_mixed p [encL ls, .int most] (encL (mixed p ls most).found) (mixed p ls most).p
section
variable {P : Program} {w : World} {K : PySem.W.Frag} {mg : Str → Option Value} {base : Heap}
abbrev s_law_mixed : Stmt := top 47
theorem sc_law_mixed : FnScope ["_law_pot_here", "_law_labels_here", "_law_most", "_law_spare", "_law_found", "_law_turn"] ["_law_pot_here", "_law_labels_here", "_law_most"] (C8.fnScope s_law_mixed) := C8.fnScope_by (by decide +kernel)
theorem ok_mixed {f : Addr} {fd : FuncData} (Fd : C8.Def K mg "_law_mixed" s_law_mixed f fd) (b : Binds K fd ["_law_pot_here", "_law_labels_here", "_law_most"] []) (T : Bi mg) (c_law_draw : C8.Cal P w K mg base 1 "_law_draw" (spP R_draw) []) : C8.Cal P w K mg base 2 "_law_mixed" (spP R_mixed) [] := by
  refine C8.cal0 Fd b .nil sc_law_mixed (len_P fun p ds d p' h => by cases h; rfl) fun cdv A outer s H vs Q E hr h => ?_
  refine ⟨_, (pss_cons (ps_par (i := 3) (j := 4) rfl sc_law_mixed.nd rfl rfl (by decide) rfl rfl (pa_cons (pe_callTy call_list_of (by rfl) T.b_list (by decide +kernel) (pa_cons (pv 1) pa_nil)) (pa_cons (pe_lst pa_nil) pa_nil)) (by rfl))
      (pss_cons (ps_for PassesOwn.never rfl (pi_range1 (by rfl) T.b_range (pa_cons (pe_callB (call_min2 rfl) (by rfl) T.b_min (by decide +kernel) (pa_cons (C8.pe_c c_law_draw hr (by decide) rfl (pa_cons (pv 0) (pa_cons (pe_op op_add (pv 2) pe_int) pa_nil))) (pa_cons (pe_callB call_len_seq (by rfl) T.b_len PySem.boot_len (pa_cons (pv 1) pa_nil)) pa_nil))) pa_nil)) (pg_name (i := 5) sc_law_mixed.nd rfl (by first | exact Or.inl rfl | exact Or.inr rfl))
      (pss_one (ps_expr (pe_bm PySem.F.plainAttrs_list PySem.F.slot_list_append PySem.F.type_list_append mt_append (pv 4) (pa_cons (pe_bm PySem.F.plainAttrs_list PySem.F.slot_list_pop PySem.F.type_list_pop mt_popAt (pv 3) (pa_cons (C8.pe_c c_law_draw hr (by decide) rfl (pa_cons (pv 0) (pa_cons (pe_callB call_len_seq (by rfl) T.b_len PySem.boot_len (pa_cons (pv 3) pa_nil)) pa_nil))) pa_nil)) pa_nil)))))
      (pss_one (ps_ret (pv 4))))), run_P h ?_⟩
  rintro p _ _ _ ⟨ls, most, hls, hmost⟩ F -
  have hs1000 : (1000 : Nat) ≤ sizeLine := by decide
  have hmx : mixed p ls most = Mx.many ⟨p.next (most + 1), ls, []⟩ (min (p.draw (most + 1)) ls.length) := rfl
  have hle : min (p.draw (most + 1)) ls.length ≤ ls.length := Nat.min_le_right _ _
  refine ⟨_, .rt [.lst ((mixed p ls most).spare.map .str), .dead], ?_⟩
  refine ws_seq (ρ1 := [.cell 0, .dat (encL ls), .dat (.int most), .cell 1, .cell 2, .un]) (μ1 := [potC p, .lst (ls.map .str), .lst []]) (ws_par2' 3 4 (eva_cons (ev_eqm (ev_listO (ds := ls.map .str) (.inl rfl) (eva_cons (ev_var 1 rfl (by simp)) eva_nil) 1 rfl) rfl) (eva_cons (ev_eqm (ev_lstO (ds := []) (μ1 := [potC p, .lst (ls.map .str)]) eva_nil (by decide) 2 rfl) rfl) eva_nil)) rfl) ?_
  let s0 : Mx := ⟨p.next (most + 1), ls, []⟩
  let S : Nat → List Slot × List Cell := fun i => ([.cell 0, .dat (encL ls), .dat (.int most), .cell 1, .cell 2, .un], [potC (s0.many i).p, .lst ((s0.many i).spare.map .str), .lst ((s0.many i).found.map .str)])
  refine ws_seq (ρ1 := (S (min (p.draw (most + 1)) ls.length)).1) (μ1 := (S (min (p.draw (most + 1)) ls.length)).2) ?_ (ws_ret (ev_free (k := 2) (ev_var 4 rfl (by simp)) rfl))
  refine ws_forN (min (p.draw (most + 1)) ls.length) [5] S (evi_range1 (j := (min (p.draw (most + 1)) ls.length : Nat)) (eva_cons (ev_eqd (ev_cb (ds := [_, _]) cd_min (eva_cons (ev_callP (ds := [.int ((most + 1 : Nat) : Int)]) (eva_cons (ev_var 0 rfl (by simp)) (eva_cons (ev_op opd_add (ev_var 2 rfl (by simp)) (ev_int _)) eva_nil)) rfl (.mk _ (most + 1) (by omega) (by omega))) (eva_cons (ev_cb (ds := [_]) cd_len (eva_cons (ev_var 1 rfl (by simp)) eva_nil)) eva_nil))) ?m1) eva_nil) (by omega) (by omega)) rfl (by rw [rngD_len]; omega) ?turn
  case m1 =>
    rw [List.length_map]
    refine congrArg D.int ?_
    split <;> omega
  case turn =>
    intro j d hd
    obtain ⟨rfl, hj⟩ := rngD_get hd
    have hj : j < min (p.draw (most + 1)) ls.length := by omega
    obtain ⟨hper, hlen⟩ := Mx.perm s0 j (by show j ≤ ls.length; omega)
    have hper := hper.length_eq
    have es : S (j + 1) = ([.cell 0, .dat (encL ls), .dat (.int most), .cell 1, .cell 2, .un], [potC (s0.many j).next.p, .lst ((s0.many j).next.spare.map .str), .lst ((s0.many j).next.found.map .str)]) := rfl
    have eS : S j = ([.cell 0, .dat (encL ls), .dat (.int most), .cell 1, .cell 2, .un], [potC (s0.many j).p, .lst ((s0.many j).spare.map .str), .lst ((s0.many j).found.map .str)]) := rfl
    rw [es, eS]
    dsimp only
    clear es eS
    clear_value S
    generalize s0.many j = tk at hlen hper ⊢
    have hlen : tk.spare.length = ls.length - j := hlen
    have hper : (tk.found ++ tk.spare).length = ([] ++ ls).length := hper
    rw [List.nil_append, List.length_append] at hper
    have hdr := Pot.draw_lt tk.p (m := tk.spare.length) (by omega)
    have hblk : tk.spare[tk.p.draw tk.spare.length]? = some (tk.spare.getD (tk.p.draw tk.spare.length) "") := by
      rw [List.getD_eq_getElem?_getD, List.getElem?_eq_getElem hdr]
      rfl
    refine ⟨_, evg_name 5, .inl (ws_weak (ρ1 := [.cell 0, .dat (encL ls), .dat (.int most), .cell 1, .cell 2, .dat (.int (0 + (j : Nat)))]) ?_ ?_)⟩
    rotate_left
    · repeat first | exact .nil | refine .cons (.inl rfl) ?_ | refine .cons (.inr rfl) ?_
    refine ws_drop (ev_eqm (ev_mut (ds := tk.found.map .str) (es := [.str (tk.spare.getD (tk.p.draw tk.spare.length) "")]) (μ2 := [potC (tk.p.next tk.spare.length), .lst ((tk.spare.map .str).eraseIdx (tk.p.draw tk.spare.length)), .lst (tk.found.map .str)]) (md_append ?a1) (ev_var 4 rfl (by simp)) (eva_cons (ev_eqm (ev_mut (ds := tk.spare.map .str) (es := [.int (tk.p.draw tk.spare.length : Nat)]) (μ2 := [potC (tk.p.next tk.spare.length), .lst (tk.spare.map .str), .lst (tk.found.map .str)]) (md_popAt (by omega) (by omega) ?a2 ?a3) (ev_var 3 rfl (by simp)) (eva_cons (ev_eqm (ev_callP (ds := [.int (tk.spare.length : Nat)]) (eva_cons (ev_var 0 rfl (by simp)) (eva_cons (ev_eqd (ev_cbC cd_len rfl (eva_cons (ev_var 3 rfl (by simp)) eva_nil) rfl) ?a4) eva_nil)) rfl (.mk _ tk.spare.length (by omega) (by omega))) rfl) eva_nil) ⟨_, rfl⟩ rfl) rfl) eva_nil) ⟨_, rfl⟩ rfl) ?a5)
    case a1 =>
      rw [List.length_map]
      exact Nat.lt_of_lt_of_le (show _ < (1000 : Nat) by omega) hs1000
    case a2 => omega
    case a3 =>
      rw [List.getElem?_map, hblk]
      rfl
    case a4 => rw [List.length_map]
    case a5 =>
      show _ = [potC tk.next.p, .lst (tk.next.spare.map .str), .lst (tk.next.found.map .str)]
      unfold Mx.next
      rw [List.map_append, map_erase]
      rfl
end
end Dl
end
section
set_option Elab.async false
set_option maxRecDepth 100000
set_option linter.all false
namespace Dl
open PySem L2
/-! ### values that are no data of the def: the law's own script -/
theorem sql_base {F : Fm} {ρ : List Slot} {μ : List Cell} {as : List Addr} {σ : St} {H : Hp} {K : PySem.W.Frag} {a : Addr} {xs : List V} (R : Rel F ρ μ as σ H) (hp : F.ps = []) (h : SqL K F.B a xs) : SqL K H a xs := by
  rcases h with (h | ⟨o, h⟩) | h
  · exact .inl (.inl (R.base a _ (by rw [hp]; simp) h))
  · exact .inl (.inr ⟨o, R.base a _ (by rw [hp]; simp) h⟩)
  · exact .inr h
section
variable {F : Fm} {ρ : List Slot} {μ μ1 μ2 : List Cell} {ta tb : TE} {t : TA}
theorem ev_lenV {K : PySem.W.Frag} {a : Addr} {xs : List V} (hp : F.ps = []) (h : SqL K F.B a xs) (ha : EvA F t ρ μ [.val (.ref a)] μ1) : Ev F (tCB (fun xs H Q => ∃ p ys, xs = [.ref p] ∧ (SqL K H p ys ∨ SqT K H p ys) ∧ Q (.int ys.length) H) t) ρ μ (.dat (.int xs.length)) μ1 := fun as σ H R Q k =>
  ha as σ H R _ fun vs as1 H1 R1 p1 a1 x1 => by
    cases x1 with
    | @cons _ v _ _ x tl =>
      cases tl
      cases x
      exact ⟨a, xs, rfl, .inl (sql_base R1 hp h), k _ as1 H1 R1 p1 a1 ⟨_, rfl, .int _⟩⟩
theorem ev_ixV {K : PySem.W.Frag} {a : Addr} {ns : List Int} {i j : Int} (hp : F.ps = []) (h : SqL K F.B a (ns.map V.int)) (ha : Ev F ta ρ μ (.val (.ref a)) μ1) (hb : Ev F tb ρ μ1 (.dat (.int i)) μ2) (hi : atI ns i = some j) : Ev F (tOp (rIxL K) ta tb) ρ μ (.dat (.int j)) μ2 := fun as σ H R Q k =>
  ha as σ H R _ fun v1 as1 H1 R1 p1 a1 x1 => hb as1 σ H1 R1 _ fun v2 as2 H2 R2 p2 a2 x2 => by
    cases x1
    cases dat_int (dat_slot x2)
    refine ⟨a, ns.map V.int, i, .int j, rfl, rfl, sql_base R2 hp h, ?_, k _ as2 H2 R2 (p1.trans p2) (a1.trans a2) ⟨_, rfl, .int _⟩⟩
    unfold atI at hi ⊢
    rw [List.length_map]
    cases e : ixN ns.length i with
    | none => rw [e] at hi; cases hi
    | some n =>
      rw [e] at hi
      show (ns.map V.int)[n]? = _
      rw [List.getElem?_map]
      have hi : ns[n]? = some j := hi
      rw [hi]
      rfl
end
/-- the start of a def, all arguments as they are -/
theorem run_V {N : List Str} {t : TS} {vs : List V} {H : Hp} {Q : VK} {r : Slot} {μ : List Cell} (hb : ∀ F : Fm, F.z = [] → F.B = H → F.ps = [] → Ws F t (vs.map .val ++ List.replicate (N.length - vs.length) .un) [] (.rt r μ))
    (k : ∀ (v : V) (as' : List Addr) (H' : Hp), SlotOk (hid μ as' ++ []) as' H' r (some v) → Paired (CellOk (hid μ as' ++ []) as' H') μ as' → (∀ a ∈ as', H a = none) → Same H H' → Q v H') : t { nx := fun _ H' => Q .non H', rt := Q } (L2.start N vs) H := by
  let F : Fm := ⟨[], H, []⟩
  have pv : ∀ vs : List V, Paired (SlotOk (hid [] [] ++ F.z) [] H) (vs.map .val) (vs.map some) := fun vs => by
    induction vs with
    | nil => exact .nil
    | cons v vs ih => exact .cons rfl ih
  have R0 : Rel F (vs.map .val ++ List.replicate (N.length - vs.length) .un) [] [] (L2.start N vs) H :=
    { cells := .nil, slots := pd_app (pv vs) (pd_rep _), nd := List.nodup_nil, zl := fun a m => (List.not_mem_nil m).elim, dj := fun a m => (List.not_mem_nil m).elim, base := fun b o _ e => e, pre := rfl, fresh := fun a m => (List.not_mem_nil m).elim, there := fun a m => (List.not_mem_nil m).elim }
  refine hb F rfl rfl rfl [] _ H R0 _ ?_
  intro ρ as' σ' H' v f sv
  refine k v as' H' sv f.rel.cells (fun a m => ?_) (fun b o e => f.rel.base b o (by simp [F]) e)
  rcases f.rel.fresh a m with q | q
  · simp [F] at q
  · exact q
/-- a pot, made of the script -/
def spPot (K : PySem.W.Frag) (pot : List Int → Nat → Int × Int) : Sp := fun vs H Q _ => ∃ (a : Addr) (ns : List Int) (k : Nat), vs = [.ref a, .int k] ∧ SqL K H a (ns.map V.int) ∧ k ≤ 63 ∧
  ∀ (q : Addr) (H' : Hp), H q = none → Same H H' → H' q = some (.lst [.int (pot ns k).1, .int (pot ns k).2]) → Q (.ref q) H'
/-- a call that hands back a new pot -/
theorem ev_callPot {F : Fm} {ρ : List Slot} {μ μ1 : List Cell} {t : TA} {K : PySem.W.Frag} {pot : List Int → Nat → Int × Int} {E : XK} {a : Addr} {ns : List Int} {k : Nat} {p : Pot} (hp : F.ps = []) (h : SqL K F.B a (ns.map V.int)) (hk : k ≤ 63) (ha : EvA F t ρ μ [.val (.ref a), .dat (.int k)] μ1)
    (e : pot ns k = (((p.a : Nat) : Int), ((p.b : Nat) : Int))) (n : Nat) (hn : n = μ1.length) : Ev F (tCall (spPot K pot) [] E t) ρ μ (.cell n) (μ1 ++ [potC p]) := fun as σ H R Q kk =>
  ha as σ H R _ fun vs as1 H1 R1 p1 a1 x1 => by
    cases x1 with
    | cons x x2 =>
      cases x2 with
      | cons y tl =>
        cases tl
        cases x
        cases dat_int (dat_slot y)
        refine ⟨a, ns, k, rfl, sql_base R1 hp h, hk, fun q H' nq sm eq => ?_⟩
        rw [e] at eq
        obtain ⟨R2, a2⟩ := R1.snoc (H' := H') (c := potC p) nq sm rfl fun h s => ⟨_, eq, .cons (.int _) (.cons (.int _) .nil)⟩
        refine kk _ _ _ R2 (p1.trans (List.prefix_append _ _)) (a1.trans a2) ⟨q, ?_, rfl⟩
        subst hn
        rw [pd_len R1.cells]
        simp
end Dl
end
section
set_option Elab.async false
set_option maxRecDepth 100000
set_option maxHeartbeats 4000000
set_option linter.all false
namespace Dl
open PySem L2
/-! ### the pot of the script -/
def cellI (ns : List Int) (k : Nat) : Int := match ns[k]? with
  | some j => if j < 0 then -j else j
  | none => 29 * (k : Int) + 13
def potI (ns : List Int) (k : Nat) : Int × Int := (if cellI ns k - 10 ^ 18 > 0 then cellI ns k - 10 ^ 18 else 0, (cellI ns k % 2147483549 + 11) * (2 * (k : Int) + 7) ^ 3 % 2147483477 + 1)
theorem potI_pot (ns : List Int) (k : Nat) : ∃ p : Pot, potI ns k = (((p.a : Nat) : Int), ((p.b : Nat) : Int)) := by
  have h2 := Int.emod_nonneg ((cellI ns k % 2147483549 + 11) * (2 * (k : Int) + 7) ^ 3) (show (2147483477 : Int) ≠ 0 by decide)
  have h3 := Int.emod_lt_of_pos ((cellI ns k % 2147483549 + 11) * (2 * (k : Int) + 7) ^ 3) (show (0 : Int) < 2147483477 by decide)
  unfold potI
  generalize (cellI ns k % 2147483549 + 11) * (2 * (k : Int) + 7) ^ 3 % 2147483477 = b at h2 h3 ⊢
  generalize (if cellI ns k - 10 ^ 18 > 0 then cellI ns k - 10 ^ 18 else 0) = a0, (show 0 ≤ (if cellI ns k - 10 ^ 18 > 0 then cellI ns k - 10 ^ 18 else 0) by split <;> omega) = ha
  exact ⟨⟨a0.toNat, (b + 1).toNat, by omega⟩, by
    show (a0, b + 1) = (((a0.toNat : Nat) : Int), (((b + 1).toNat : Nat) : Int))
    rw [Int.toNat_of_nonneg ha, Int.toNat_of_nonneg (by omega)]⟩
section
variable {P : Program} {w : World} {K : PySem.W.Frag} {mg : Str → Option Value} {base : Heap}
theorem ev_vi {F : Fm} {ρ : List Slot} {μ μ1 : List Cell} {te : TE} {i : Int} (h : Ev F te ρ μ (.val (.int i)) μ1) : Ev F te ρ μ (.dat (.int i)) μ1 := fun as σ H R Q k =>
  h as σ H R _ fun v1 as1 H1 R1 p1 a1 x1 => by
    cases x1
    exact k _ as1 H1 R1 p1 a1 ⟨_, rfl, .int _⟩
abbrev s_law_pot : Stmt := top 40
theorem sc_law_pot : FnScope ["_law_script", "_law_k", "_law_cell"] ["_law_script", "_law_k"] (C8.fnScope s_law_pot) := C8.fnScope_by (by decide +kernel)
theorem ok_pot {f : Addr} {fd : FuncData} (Fd : C8.Def K mg "_law_pot" s_law_pot f fd) (b : Binds K fd ["_law_script", "_law_k"] []) (T : Bi mg) : C8.Cal P w K mg base 1 "_law_pot" (spPot K potI) [] := by
  refine C8.cal0 Fd b .nil sc_law_pot (fun vs H Q E h => by obtain ⟨a, ns, k, rfl, _⟩ := h; rfl) fun cdv A outer s H vs Q E hr h => ?_
  refine ⟨_, (pss_cons (ps_set (i := 2) sc_law_pot.nd rfl (by first | exact Or.inl rfl | exact Or.inr rfl) (pe_op op_add (pe_op op_mul pe_int (pv 1)) pe_int))
    (pss_cons (ps_if (pt_cmpR op_lt (pv 1) (pe_callB (k_len rfl) (by rfl) T.b_len PySem.boot_len (pa_cons (pv 0) pa_nil)) (nomark _))
      (pss_one (ps_set (i := 2) sc_law_pot.nd rfl (by first | exact Or.inl rfl | exact Or.inr rfl) (pe_callB call_abs (by rfl) T.b_abs (by decide +kernel) (pa_cons (pe_ix (k_ixL rfl) (pv 0) (pv 1) (fun _ _ => rfl)) pa_nil)))) pss_nil)
    (pss_one (ps_ret (pe_lst (pa_cons (pe_callB (call_max2 rfl) (by rfl) T.b_max (by decide +kernel) (pa_cons pe_int (pa_cons (pe_op op_sub (pv 2) (pe_op op_pow pe_int pe_int)) pa_nil))) (pa_cons (pe_op op_add (pe_op op_mod (pe_op op_mul (pe_callTy call_int1 (by rfl) T.b_int (by decide +kernel) (pa_cons (pe_op op_add (pe_op op_mod (pe_callTy call_int1 (by rfl) T.b_int (by decide +kernel) (pa_cons (pv 2) pa_nil)) pe_int) pe_int) pa_nil)) (pe_op op_pow (pe_op op_add (pe_op op_mul pe_int (pv 1)) pe_int) pe_int)) pe_int) pe_int) pa_nil))))))), ?_⟩
  obtain ⟨a, ns, k, rfl, hs, hk, fin⟩ := h
  refine run_V (r := .cell 0) (μ := [.lst [.int (potI ns k).1, .int (potI ns k).2]]) (fun F hz hB hp => ?_) ?_
  · rw [← hB] at hs
    have hs1000 : (1000 : Nat) ≤ sizeLine := by decide
    refine ws_seq (ρ1 := [.val (.ref a), .val (.int k), .dat (.int (29 * (k : Int) + 13))]) (μ1 := []) (ws_set 2 (ev_op opd_add (ev_op (opd_I ?c1 fun _ => .int _) (ev_int _) (ev_vi (ev_var 1 rfl (by simp)))) (ev_int _))) ?_
    case c1 => exact .inl ⟨by decide, by decide⟩
    refine ws_seq (ρ1 := [.val (.ref a), .val (.int k), .dat (.int (cellI ns k))]) (μ1 := []) ?_ ?_
    · refine ws_if (b := decide ((k : Int) < (((ns.map V.int).length : Nat) : Int))) (evt_test (ev_op opd_lt (ev_vi (ev_var 1 rfl (by simp))) (ev_lenV hp hs (eva_cons (ev_var 0 rfl (by simp)) eva_nil)))) (fun hb => ?_) (fun hb => ?_)
      · have hlt : k < ns.length := by
          have := of_decide_eq_true hb
          rw [List.length_map] at this
          omega
        have e : cellI ns k = if ns[k] < 0 then -ns[k] else ns[k] := by
          unfold cellI
          rw [List.getElem?_eq_getElem hlt]
        rw [e]
        exact ws_set 2 (ev_cb (ds := [.int ns[k]]) cd_abs (eva_cons (ev_ixV hp hs (ev_var 0 rfl (by simp)) (ev_vi (ev_var 1 rfl (by simp))) (atI_nat (List.getElem?_eq_getElem hlt))) eva_nil))
      · have hge : ns.length ≤ k := by
          have := of_decide_eq_false hb
          rw [List.length_map] at this
          omega
        have e : cellI ns k = 29 * (k : Int) + 13 := by
          unfold cellI
          rw [List.getElem?_eq_none hge]
        rw [e]
        exact ws_next
    · have e1 : (2 * (k : Int) + 7).toNat ≤ 133 := by omega
      refine ws_ret (ev_lstO (μ1 := []) (ds := [.int (potI ns k).1, .int (potI ns k).2]) (eva_cons (ev_cb (ds := [.int 0, .int (cellI ns k - 10 ^ 18)]) cd_max (eva_cons (ev_int _) (eva_cons (ev_op opd_sub (ev_var 2 rfl (by simp)) (ev_op (opd_I ?d1 fun _ => .int _) (ev_int _) (ev_int _))) eva_nil))) (eva_cons (ev_op opd_add (ev_op (opd_I ?d2 fun _ => .int _) (ev_op (opd_I ?d3 fun _ => .int _) (ev_cb (ds := [.int (cellI ns k % 2147483549 + 11)]) cd_int (eva_cons (ev_op opd_add (ev_op (opd_I ?d4 fun _ => .int _) (ev_cb (ds := [.int (cellI ns k)]) cd_int (eva_cons (ev_var 2 rfl (by simp)) eva_nil)) (ev_int _)) (ev_int _)) eva_nil)) (ev_op (opd_I ?d5 fun _ => .int _) (ev_op opd_add (ev_op (opd_I ?d6 fun _ => .int _) (ev_int _) (ev_vi (ev_var 1 rfl (by simp)))) (ev_int _)) (ev_int _))) (ev_int _)) (ev_int _)) eva_nil)) (Nat.le_trans (show 2 ≤ 1000 by decide) hs1000) 0 rfl)
      case d1 => exact ⟨by decide, by decide, by decide⟩
      case d2 => show (0 : Int) < 2147483477; decide
      case d3 =>
        have h2 := Int.emod_nonneg (cellI ns k) (show (2147483549 : Int) ≠ 0 by decide)
        have h3 := Int.emod_lt_of_pos (cellI ns k) (show (0 : Int) < 2147483549 by decide)
        exact .inl ⟨by omega, by omega⟩
      case d4 => show (0 : Int) < 2147483549; decide
      case d5 => exact ⟨by decide, by decide, by omega⟩
      case d6 => exact .inl ⟨by decide, by decide⟩
  · intro v as' H' sv cs fr sm
    obtain ⟨q, hq, e⟩ := sv
    cases e
    cases cs with
    | cons c tl =>
      cases tl
      cases hq
      obtain ⟨vs, e, x⟩ := c
      rw [dats_ints2 x] at e
      exact fin q H' (fr q List.mem_cons_self) sm e
end
end Dl
end
section
set_option Elab.async false
set_option maxRecDepth 100000
set_option linter.all false
namespace Dl
open PySem L2
section
variable {F : Fm} {ρ : List Slot} {μ μ1 : List Cell} {r1 r2 : Slot} {t : TA}
/-- a, b = x, y by way of a tuple (one of the names lives in a cell) -/
theorem ws_tup2 {K : PySem.W.Frag} (i j : Nat) (h : EvA F t ρ μ [r1, r2] μ1) : Ws F (tAsg (tTup t) (gTup K 2 (gCons (gName i) (gCons (gName j) gNil)))) ρ μ (.nx ((ρ.set i r1).set j r2) μ1) := fun as σ H R E k =>
  h as σ H R _ fun vs as1 H1 R1 p1 a1 x1 => by
    cases x1 with
    | @cons _ v _ _ x x2 =>
      cases x2 with
      | @cons _ w _ _ y tl =>
        cases tl
        refine ⟨Nat.le_trans (show (2 : Nat) ≤ 3 by decide) (by decide), fun p np => ?_⟩
        have sm : Same H1 (upd H1 p (.tup [v, w])) := same_upd np
        have R2 := R1.same sm
        have x' := SlotOk.adv (.same sm) x
        have y' := SlotOk.adv (.same sm) y
        refine ⟨p, [v, w], rfl, SqT.of upd_same, rfl, v, [w], rfl, w, [], rfl, rfl, k as1 _ _ ⟨(R2.put i x').put j y', p1, a1.trans (.same sm)⟩⟩
end
def dictD (kds : List (Key × D)) : D := .lst (kds.map fun e => .tup [keyD e.1, e.2])
theorem dict_pairs {z : List Addr} {H : Hp} {K : PySem.W.Frag} : ∀ {kds : List (Key × D)} {vs : List V}, Dats (Hide z H) vs (kds.map fun e => .tup [keyD e.1, e.2]) → ∃ (ps : List Addr) (kvs : List (Key × V)), vs = ps.map V.ref ∧ Paired (fun p kv => SqT K H p [kV kv.1, kv.2]) ps kvs ∧ DatK (Hide z H) kvs kds
  | [], _, .nil => ⟨[], [], rfl, .nil, .nil⟩
  | e :: kds, _, .cons x r => by
    obtain ⟨ps, kvs, rfl, pp, dk⟩ := dict_pairs (K := K) r
    obtain ⟨p, vs, rfl, q, y⟩ := dat_tup x
    obtain ⟨v, w, rfl, y1, y2⟩ := dats_2 y
    cases dat_keyV y1
    exact ⟨p :: ps, (e.1, w) :: kvs, rfl, .cons (SqT.of (hide_get q)) pp, .cons y2 dk⟩
/-- dict([(k, v), ..]) -/
theorem cd_dictP {K : PySem.W.Frag} {kds : List (Key × D)} : CallD (fun xs H Q => ∃ (a : Addr) (ps : List Addr) (kvs : List (Key × V)), xs = [.ref a] ∧ SqL K H a (ps.map V.ref) ∧ Paired (fun p kv => SqT K H p [kV kv.1, kv.2]) ps kvs ∧
    ∀ p, H p = none → Q (.ref p) (upd H p (.dK (mergeK [] kvs)))) [dictD kds] (.dic (mergeD [] kds)) := fun z H vs lv x Q k => by
  obtain ⟨v, rfl, x1⟩ := dats_1 x
  obtain ⟨a, vs, rfl, q, y⟩ := dat_lst x1
  obtain ⟨ps, kvs, rfl, pp, dk⟩ := dict_pairs (K := K) y
  refine ⟨a, ps, kvs, rfl, SqL.of (hide_get q), pp, fun p np => k _ _ (same_upd np) (.dic (.inl (hide_new lv np)) ?_)⟩
  refine DatK.merge (dk.mono (.of fun b o e => ?_)) .nil
  obtain ⟨n, e⟩ := hide_some e
  rw [hide_out n]
  exact same_upd np b o e
theorem mergeD_nodup : ∀ {ds es : List (Key × D)}, ((es ++ ds).map (·.1)).Nodup → mergeD es ds = es ++ ds
  | [], es, _ => by rw [List.append_nil]; rfl
  | d :: ds, es, h => by
    show mergeD (putD es d.1 d.2) ds = _
    have h1 : putD es d.1 d.2 = es ++ [d] := by
      unfold putD
      rw [if_neg]
      intro q
      obtain ⟨e, he, q⟩ := List.any_eq_true.mp q
      have q : e.1 = d.1 := by simpa using q
      rw [List.map_append] at h
      exact (List.nodup_append.mp h).2.2 e.1 (List.mem_map.mpr ⟨e, he, rfl⟩) d.1 (by simp) q
    rw [h1, mergeD_nodup (by rw [List.append_assoc]; exact h), List.append_assoc]
    rfl
theorem look_zip (f : Nat → D) : ∀ (xs : List Str) (x : Str) (k : Nat), x ∈ xs → lookD ((xs.zipIdx k).map fun p => ((.inr p.1 : Key), f p.2)) (.inr x) = some (f (k + xs.idxOf x))
  | [], _, _, h => by simp at h
  | y :: ys, x, k, h => by
    rw [List.zipIdx_cons, List.map_cons]
    by_cases e : y = x
    · subst e
      rw [lookD_pos rfl]
      simp
    · rw [lookD_neg (by intro q; exact e (Sum.inr.inj q))]
      have hx : x ∈ ys := by
        rcases List.mem_cons.mp h with rfl | h
        · exact absurd rfl e
        · exact h
      rw [look_zip f ys x (k + 1) hx]
      have : (y :: ys).idxOf x = ys.idxOf x + 1 := by
        rw [List.idxOf_cons, show (y == x) = false by simpa using e]
        rfl
      rw [this]
      congr 2
      omega
end Dl
end
section
set_option Elab.async false
set_option maxRecDepth 100000
set_option maxHeartbeats 4000000
set_option linter.all false
namespace Dl
open PySem L2
/-! ### the model turned by one place -/
def rotI (sgl : List Str) (i : Nat) : Str := sgl.getD ((i + 1) % sgl.length) ""
def rot (sgl : List Str) (x : Str) : Str := rotI sgl (sgl.idxOf x)
def laterD (sgl : List Str) : List (Key × D) := sgl.zipIdx.map fun p => (.inr p.1, .str (rotI sgl p.2))
def turn1 (sgl : List Str) (e : Str × List Str) : Str × List Str := (e.1, sgl.filter fun s => decide (s ∈ e.2.map (rot sgl)))
def Mdl.turned (M : Mdl) : Mdl := ⟨M.sgl, M.sets.map (turn1 M.sgl)⟩
structure Mdl.Neat (M : Mdl) : Prop where
  small : M.Small
  nd : M.sgl.Nodup
  keys : (M.sets.map (·.1)).Nodup
  inn : ∀ e ∈ M.sets, ∀ x ∈ e.2, x ∈ M.sgl
inductive R_turned : List D → D → Prop
  | mk (M : Mdl) (h : M.Neat) : R_turned [mdlD M] (mdlD M.turned)
theorem look_later {sgl : List Str} {x : Str} (h : x ∈ sgl) : lookD (laterD sgl) (.inr x) = some (.str (rot sgl x)) := by
  have := look_zip (fun i => .str (rotI sgl i)) sgl x 0 h
  rw [Nat.zero_add] at this
  exact this
theorem later_nodup {sgl : List Str} (h : sgl.Nodup) : mergeD [] (laterD sgl) = laterD sgl := by
  rw [mergeD_nodup]
  · rfl
  · show ((laterD sgl).map (·.1)).Nodup
    unfold laterD
    rw [List.map_map]
    have : (sgl.zipIdx.map ((fun x : Key × D => x.1) ∘ fun p => ((.inr p.1 : Key), D.str (rotI sgl p.2)))) = sgl.map Sum.inr := by
      have e := List.zipIdx_map_fst 0 sgl
      conv => rhs; rw [← e]
      rw [List.map_map]
      rfl
    rw [this]
    exact nodup_map (fun a b e => Sum.inr.inj e) h
theorem atI_rot {sgl : List Str} {i : Nat} (h : i < sgl.length) : atI (sgl.map D.str) ((i : Int) + 1 - (((sgl.map D.str).length : Nat) : Int)) = some (.str (rotI sgl i)) := by
  unfold atI rotI
  rw [List.length_map]
  by_cases e : i + 1 = sgl.length
  · have h1 : (i : Int) + 1 - (sgl.length : Nat) = ((0 : Nat) : Int) := by omega
    have h2 : (i + 1) % sgl.length = 0 := by rw [e]; exact Nat.mod_self _
    rw [h1, h2]
    have h3 : ixN sgl.length ((0 : Nat) : Int) = some 0 := by
      unfold ixN
      rw [if_pos (by omega), if_pos (by omega)]
      rfl
    rw [h3]
    show (sgl.map D.str)[0]? = _
    have hp : 0 < sgl.length := by omega
    rw [List.getElem?_map, List.getD_eq_getElem?_getD, List.getElem?_eq_getElem hp]
    rfl
  · have h2 : (i + 1) % sgl.length = i + 1 := Nat.mod_eq_of_lt (by omega)
    rw [h2]
    have h3 : ixN sgl.length ((i : Int) + 1 - (sgl.length : Nat)) = some (i + 1) := by
      unfold ixN
      rw [if_neg (by omega), if_pos (by omega)]
      congr 1
      omega
    rw [h3]
    show (sgl.map D.str)[i + 1]? = _
    have hp : i + 1 < sgl.length := by omega
    rw [List.getElem?_map, List.getD_eq_getElem?_getD, List.getElem?_eq_getElem hp]
    rfl
theorem enum_strs (sgl : List Str) : enumD (sgl.map .str) = sgl.zipIdx.map fun p => .tup [.int (p.2 : Nat), .str p.1] := by
  unfold enumD
  rw [List.zipIdx_map, List.map_map]
  rfl
theorem look_nodup {sets : List (Str × List Str)} (h : (sets.map (·.1)).Nodup) {i : Nat} {e : Str × List Str} (he : sets[i]? = some e) : lookD (setsD sets) (.inr e.1) = some (encL e.2) := by
  rw [look_sets]
  have : sets.find? (fun x => decide (x.1 = e.1)) = some e := by
    induction sets generalizing i with
    | nil => simp at he
    | cons x xs ih =>
      rw [List.map_cons] at h
      have h' := List.nodup_cons.mp h
      cases i with
      | zero =>
        have : x = e := by simpa using he
        subst this
        simp [List.find?_cons]
      | succ i =>
        have he' : xs[i]? = some e := by simpa using he
        have hne : ¬ x.1 = e.1 := fun q => h'.1 (q ▸ List.mem_map.mpr ⟨e, List.mem_of_getElem? he', rfl⟩)
        rw [List.find?_cons, show decide (x.1 = e.1) = false by simpa using hne]
        exact ih h'.2 he'
  rw [this]
  rfl
theorem ws_for_atN {F : Fm} {ρ : List Slot} {μ μ1 : List Cell} {wi : TI} {g : TG} {tb : TS} (n : Nat) (vs : List Nat) {items : List D} {as : List Addr} {σ : St} {H : Hp} (S : Nat → List Slot × List Cell) (hi : EvIat F wi ρ μ items μ1 as σ H) (h0 : S 0 = (ρ, μ1)) (hn : items.length = n)
    (turn : ∀ i d, items[i]? = some d → ∃ ρ', EvG F g vs (S i).1 (S i).2 d ρ' ∧ (Ws F tb ρ' (S i).2 (.nx (S (i + 1)).1 (S (i + 1)).2) ∨ Ws F tb ρ' (S i).2 (.ct (S (i + 1)).1 (S (i + 1)).2))) :
    WsAt F (tFor wi g tb) ρ μ (.nx (S n).1 (S n).2) as σ H := by
  subst hn
  exact ws_for_at hi S h0 turn
theorem ev_enumS {F : Fm} {ρ : List Slot} {μ μ1 : List Cell} {K : PySem.W.Frag} {te : TE} {sgl : List Str} (h : Ev F te ρ μ (.dat (encL sgl)) μ1) : EvI F (iEnum K (tCons te tNil)) ρ μ (sgl.zipIdx.map fun p => .tup [.int (p.2 : Nat), .str p.1]) μ1 := by
  rw [← enum_strs]
  exact evi_enum (eva_cons h eva_nil)
section
variable {P : Program} {w : World} {K : PySem.W.Frag} {mg : Str → Option Value} {base : Heap}
abbrev s_law_turned : Stmt := top 54
abbrev N_turned : List Str := ["_law_model", "_law_singles", "_law_sets", "_law_later", "_law_label", "_law_at", "_law_single", "_law_near"]
theorem sc_law_turned : FnScope N_turned ["_law_model"] (C8.fnScope s_law_turned) := C8.fnScope_by (by decide +kernel)
theorem k_dictP {X : Cx} (e : X.K = K) (hcalm : X.calm = true) : CallR X (.type "dict") (fun xs H Q => ∃ (a : Addr) (ps : List Addr) (kvs : List (Key × V)), xs = [.ref a] ∧ SqL K H a (ps.map V.ref) ∧ Paired (fun p kv => SqT K H p [kV kv.1, kv.2]) ps kvs ∧
    ∀ p, H p = none → Q (.ref p) (upd H p (.dK (mergeK [] kvs)))) := by subst e; exact call_dictP hcalm
theorem ok_turned {f : Addr} {fd : FuncData} (Fd : C8.Def K mg "_law_turned" s_law_turned f fd) (b : Binds K fd ["_law_model"] []) (T : Bi mg) : C8.Cal P w K mg base 1 "_law_turned" (spF R_turned) [] := by
  refine C8.cal0 Fd b .nil sc_law_turned (len_F fun ds d h => by cases h; rfl) fun cdv A outer s H vs Q E hr h => ?_
  refine ⟨_, (pss_cons (ps_asg (pe_tup (pa_cons (pe_dget (lt_units (k := 0) hr.un) (pv 0) pe_str (fun _ _ => rfl)) (pa_cons pe_dnewK pa_nil))) (pg_tup rfl (pgs_cons (pg_name (i := 1) sc_law_turned.nd rfl (by first | exact Or.inl rfl | exact Or.inr rfl)) (pgs_cons (pg_name (i := 2) sc_law_turned.nd rfl (by first | exact Or.inl rfl | exact Or.inr rfl)) pgs_nil))))
    (pss_cons (ps_set (i := 3) sc_law_turned.nd rfl (by first | exact Or.inl rfl | exact Or.inr rfl) (pe_callTy (k_dictP rfl rfl) (by rfl) T.b_dict (by decide +kernel) (pa_cons (pe_lc (own := [("_law_at", 5), ("_law_single", 6)]) (g := gTup K 2 (gCons (gName 5) (gCons (gName 6) gNil))) (tt := tYes) rfl sc_law_turned.nd (pi_enum (by rfl) T.b_enumerate (pa_cons (pv 1) pa_nil)) (blkOk_by (N := N_turned) (sc := C8.fnScope s_law_turned) (by decide +kernel))
        (fun _ _ _ _ _ => pg_tup rfl (pgs_cons (pg_name (i := 5) sc_law_turned.nd rfl (by first | exact Or.inl rfl | exact Or.inr rfl)) (pgs_cons (pg_name (i := 6) sc_law_turned.nd rfl (by first | exact Or.inl rfl | exact Or.inr rfl)) pgs_nil))) (fun _ _ _ _ _ => pts_nil)
        (fun _ _ _ _ _ => pe_tup (pa_cons (pv 6) (pa_cons (pe_ix (k_ixL rfl) (pv 1) (pe_op op_sub (pe_op op_add (pv 5) pe_int) (pe_callB (k_len rfl) (by rfl) T.b_len PySem.boot_len (pa_cons (pv 1) pa_nil))) (fun _ _ => rfl)) pa_nil)))) pa_nil)))
    (pss_cons (ps_le (ps_for PassesOwn.never rfl (pi_keys (pe_dget (lt_units (k := 0) hr.un) (pv 0) pe_str (fun _ _ => rfl))) (pg_name (i := 4) sc_law_turned.nd rfl (by first | exact Or.inl rfl | exact Or.inr rfl))
      (pss_one (ps_asg (pe_lc (own := [("_law_single", 6)]) (g := gName 6) rfl sc_law_turned.nd (pi_list (pv 1)) (blkOk_by (N := N_turned) (sc := C8.fnScope s_law_turned) (by decide +kernel)) (fun _ _ _ _ _ => (pg_name (i := 6) sc_law_turned.nd rfl (by first | exact Or.inl rfl | exact Or.inr rfl)))
        (fun _ _ _ _ _ => (pts_one (pt_cmpR (k_in rfl) (pv 6) (by
          refine pe_lc (own := [("_law_near", 7)]) (g := gName 7) (tt := tYes) (wi := iList K (tDGet (tDGet (tVar 0) (tC (.str "sets"))) (tVar 4))) (te := tDGet (tVar 3) (tVar 7)) rfl sc_law_turned.nd ?_ ?_ ?_ ?_ ?_
          · refine k_ilist rfl ?_
            refine pe_dget (lt_units (k := 0) hr.un) ?_ ?_ (fun _ _ => rfl)
            · exact pe_dget (lt_units (k := 0) hr.un) (pv 0) pe_str (fun _ _ => rfl)
            · exact pv 4
          · exact blkOk_by (by rfl)
          · intro _ _ _ _ _
            exact (pg_name (i := 7) sc_law_turned.nd rfl (by first | exact Or.inl rfl | exact Or.inr rfl))
          · intro _ _ _ _ _
            exact pts_nil
          · intro _ _ _ _ _
            exact pe_dget (lt_units (k := 0) hr.un) (pv 3) (pv 7) (fun _ _ => rfl)) (by rfl))))
        (fun _ _ _ _ _ => (pv 6))) (pg_sub (pv 2) (pv 4) (set_dict (lt_units (k := 0) hr.un)))))))
    (pss_one (ps_ret (pe_disp (pps_cons pe_str (pv 1) (pps_cons pe_str (pv 2) pps_nil)) rfl rfl (by simp) (by decide))))))), run_F h ?_⟩
  rintro _ _ ⟨M, hM⟩ F -
  refine ⟨_, .rt [.dead], ?_⟩
  have hs1000 : (1000 : Nat) ≤ sizeLine := by decide
  have hsgl := hM.small.sgl
  have hsets := hM.small.sets
  refine ws_seq (ρ1 := [.dat (mdlD M), .dat (encL M.sgl), .cell 0, .un, .un, .un, .un, .un]) (μ1 := [.dic []]) (ws_tup2 1 2 (eva_cons (ev_dget (look_sgl M) (ev_var 0 rfl (by simp)) (ev_str _)) (eva_cons (ev_dnewO 0 rfl) eva_nil))) ?_
  refine ws_seq (ρ1 := [.dat (mdlD M), .dat (encL M.sgl), .cell 0, .dat (.dic (laterD M.sgl)), .un, .un, .un, .un]) (μ1 := [.dic []]) (ws_set 3 (r := .dat (.dic (laterD M.sgl))) (ev_eqd (ev_cb (ds := [dictD (laterD M.sgl)]) cd_dictP (eva_cons (ev_eqd (ev_lcF (α := Str × Nat) (enc := fun p => .tup [.int (p.2 : Nat), .str p.1]) (xs := M.sgl.zipIdx) (p := fun _ => true) (f := fun p => .tup [.str p.1, .str (rotI M.sgl p.2)]) (ev_enumS (ev_var 1 rfl (by simp))) ?a1 ?a2 (fun F' a => evg_tup2 5 6) (fun F' a _ => evt_yes) (fun F' a ha _ => ev_tup (ds := [.str a.1, .str (rotI M.sgl a.2)]) (eva_cons (ev_var 6 rfl (by simp)) (eva_cons (ev_op (opd_ixL (atI_rot ?a5)) (ev_var 1 rfl (by simp)) (ev_op opd_sub (ev_op opd_add (ev_var 5 rfl (by simp)) (ev_int _)) (ev_cb (ds := [_]) cd_len (eva_cons (ev_var 1 rfl (by simp)) eva_nil)))) eva_nil)) ?a3)) ?a4) eva_nil)) (congrArg D.dic (later_nodup hM.nd)))) ?_
  case a1 =>
    intro i hi
    rcases List.mem_cons.mp hi with rfl | hi
    · rfl
    · cases List.mem_singleton.mp hi
      rfl
  case a2 => rw [List.length_zipIdx]; omega
  case a3 => exact Nat.le_trans (show (2 : Nat) ≤ 3 by decide) (by decide)
  case a4 =>
    rw [List.filter_eq_self.mpr (fun _ _ => rfl)]
    unfold dictD laterD
    rw [List.map_map]
    rfl
  case a5 => exact (List.mem_zipIdx ha).2.1 |> fun h => by omega
  let S : Nat → List Slot × List Cell := fun i => ([.dat (mdlD M), .dat (encL M.sgl), .cell 0, .dat (.dic (laterD M.sgl)), .un, .un, .un, .un], [.dic (setsD (M.turned.sets.take i))])
  refine ws_seq (ρ1 := (S M.sets.length).1) (μ1 := (S M.sets.length).2) (ws_lock (evp_get 0 rfl (look_set M)) fun F as σ H p kvs o Lk => ws_for_atN M.sets.length [4] S (evi_keys_at Lk) rfl (by unfold setsD; rw [List.length_map, List.length_map]) ?turn) ?ret
  case turn =>
    intro i d hd
    rw [List.getElem?_map] at hd
    obtain ⟨e', ee, rfl⟩ := Option.map_eq_some_iff.mp hd
    unfold setsD at ee
    rw [List.getElem?_map] at ee
    obtain ⟨⟨l, b⟩, eb, rfl⟩ := Option.map_eq_some_iff.mp ee
    have hi : i < M.sets.length := (List.getElem?_eq_some_iff.mp eb).1
    have hmem : (l, b) ∈ M.sets := List.mem_of_getElem? eb
    have hb5 : b.length ≤ 5 := hM.small.each _ hmem
    have hbin : ∀ x ∈ b, x ∈ M.sgl := hM.inn _ hmem
    have et : M.turned.sets[i]? = some (turn1 M.sgl (l, b)) := by
      show (M.sets.map (turn1 M.sgl))[i]? = _
      rw [List.getElem?_map, eb]
      rfl
    have hnew : l ∉ (M.turned.sets.take i).map (·.1) := by
      have hk := hM.keys
      show l ∉ ((M.sets.map (turn1 M.sgl)).take i).map (·.1)
      rw [← List.map_take, List.map_map]
      intro q
      obtain ⟨x, hx, q⟩ := List.mem_map.mp q
      have q : x.1 = l := q
      obtain ⟨j, hj, ej⟩ := List.mem_iff_getElem.mp hx
      rw [List.length_take] at hj
      rw [List.getElem_take] at ej
      have h1 : (M.sets.map (·.1))[j]? = some l := by
        rw [List.getElem?_map, List.getElem?_eq_getElem (by omega), ej]
        exact congrArg some q
      have h2 : (M.sets.map (·.1))[i]? = some l := by
        rw [List.getElem?_map, eb]
        rfl
      have := (List.getElem?_inj (by rw [List.length_map]; omega) hk).mp (h1.trans h2.symm)
      omega
    have es : S (i + 1) = ([.dat (mdlD M), .dat (encL M.sgl), .cell 0, .dat (.dic (laterD M.sgl)), .un, .un, .un, .un], [.dic (putD (setsD (M.turned.sets.take i)) (.inr l) (encL (turn1 M.sgl (l, b)).2))]) := by
      rw [setsD_put hnew]
      show (_, [Cell.dic (setsD (M.turned.sets.take (i + 1)))]) = _
      rw [List.take_add_one, et]
      rfl
    have eS : S i = ([.dat (mdlD M), .dat (encL M.sgl), .cell 0, .dat (.dic (laterD M.sgl)), .un, .un, .un, .un], [.dic (setsD (M.turned.sets.take i))]) := rfl
    rw [es, eS]
    dsimp only
    clear es eS
    clear_value S
    have hacc : (setsD (M.turned.sets.take i)).length ≤ 4 := by
      unfold setsD
      rw [List.length_map, List.length_take]
      omega
    generalize setsD (M.turned.sets.take i) = acc at hacc ⊢
    refine ⟨_, evg_name 4, .inl (ws_weak (ρ1 := [.dat (mdlD M), .dat (encL M.sgl), .cell 0, .dat (.dic (laterD M.sgl)), .dat (.str l), .un, .un, .un]) ?_ ?_)⟩
    rotate_left
    · repeat first | exact .nil | refine .cons (.inl rfl) ?_ | refine .cons (.inr rfl) ?_
    refine ws_eqm (ws_asg (ev_lcF (α := Str) (enc := .str) (xs := M.sgl) (p := fun s => decide (s ∈ b.map (rot M.sgl))) (f := fun x => D.str x) (evi_list (ev_var 1 rfl (by simp))) ?u1 ?u2 (fun F' a => evg_name 6) (fun F' a _ => evt_test (ev_op opd_inS (ev_var 6 rfl (by simp)) (ev_eqd (ev_lcF (α := Str) (enc := .str) (xs := b) (p := fun _ => true) (f := fun x => D.str (rot M.sgl x)) (evi_list (xs := b.map .str) (ev_dget (k := .inr l) (look_nodup hM.keys eb) (ev_dget (look_set M) (ev_var 0 rfl (by simp)) (ev_str _)) (ev_var 4 rfl (by simp)))) ?u3 ?u4 (fun F' a => evg_name 7) (fun F' a _ => evt_yes) (fun F' x hx _ => ev_dget (k := .inr x) (look_later (hbin x hx)) (ev_var 3 rfl (by simp)) (ev_var 7 rfl (by simp)))) ?u5))) (fun F' a _ _ => ev_var 6 rfl (by simp))) (wg_subD (k := .inr l) (es := acc) (ev_var 2 rfl (by simp)) (ev_var 4 rfl (by simp)) rfl ?u6)) ?u7
    case u1 =>
      intro i hi
      cases List.mem_singleton.mp hi
      rfl
    case u2 => omega
    case u3 =>
      intro i hi
      cases List.mem_singleton.mp hi
      rfl
    case u4 => omega
    case u5 =>
      rw [List.filter_eq_self.mpr (fun _ _ => rfl), List.map_map]
      rfl
    case u6 => exact Nat.lt_of_lt_of_le (show _ < (1000 : Nat) by omega) hs1000
    case u7 => rfl
  case ret =>
    have hz : M.turned.sets.take M.sets.length = M.turned.sets := by
      rw [List.take_of_length_le]
      show (M.sets.map _).length ≤ _
      rw [List.length_map]
      exact Nat.le_refl _
    refine ws_ret (ev_eqd (ev_disp (es := [(.inr ("singles" : Str), encL M.sgl), (.inr ("sets" : Str), .dic (setsD (M.turned.sets.take M.sets.length)))]) (fun F' => evps_cons (ev_str _) (ev_var 1 rfl (by simp)) (evps_cons (ev_str _) (ev_freeK (ev_var 2 rfl (by simp)) rfl) evps_nil)) (show (2 : Nat) ≤ 15 by decide)) ?_)
    rw [hz]
    exact congrArg D.dic (merge_2 (by decide))
end
end Dl
end
section
set_option Elab.async false
set_option maxRecDepth 100000
set_option linter.all false
namespace Dl
open PySem L2
/-! ### isinstance of data -/
def tyD : D → Option String
  | .non => some "NoneType"
  | .bl _ => some "bool"
  | .int _ => some "int"
  | .str _ => some "str"
  | .lst _ => some "list"
  | .tup _ => some "tuple"
  | .dic _ => some "dict"
  | .ins _ _ => none
theorem dat_ty {K : PySem.W.Frag} {z : List Addr} {H : Hp} {v : V} {d : D} {t : String} (x : Dat (Hide z H) v d) (e : tyD d = some t) : TyX K H v (.type t) := by
  cases d with
  | non => cases e; cases dat_non x; exact .base .non
  | bl b => cases e; cases dat_bl x; exact .base (.bl b)
  | int i => cases e; cases dat_int x; exact .base (.int i)
  | str i => cases e; cases dat_str x; exact .base (.str i)
  | lst ds =>
    cases e
    obtain ⟨p, vs, rfl, q, _⟩ := dat_lst x
    exact .base (.lst (hide_get q))
  | tup ds =>
    cases e
    obtain ⟨p, vs, rfl, q, _⟩ := dat_tup x
    exact .base (.tup (hide_get q))
  | dic es =>
    cases e
    obtain ⟨p, kvs, rfl, q, _⟩ := dat_dic x
    rcases rd_hide q with q | ⟨o, q⟩
    · exact .base (.dK q)
    · exact .fDict q
  | ins C fs => cases e
section
variable {F : Fm} {ρ : List Slot} {μ μ1 : List Cell} {te : TE}
theorem ev_isi {K : PySem.W.Frag} {d : D} {t T : String} {b : Bool} (ht : tyD d = some t) (hb : kitB t T = some b) (h : Ev F te ρ μ (.dat d) μ1) : Ev F (tCB (rIsi K) (tCons te (tCons (tC (.ty T)) tNil))) ρ μ (.dat (.bl b)) μ1 := fun as σ H R Q k =>
  h as σ H R _ fun v as1 H1 R1 p1 a1 x1 => ⟨v, .ty T, .type t, .type T, b, rfl, .ty T, dat_ty (dat_slot x1) ht, kit_ty hb, k _ as1 H1 R1 p1 a1 ⟨_, rfl, .bl _⟩⟩
theorem ev_isi2 {K : PySem.W.Frag} {d : D} {t T U : String} {b c : Bool} (ht : tyD d = some t) (hb : kitB t T = some b) (hc : kitB t U = some c) (h : Ev F te ρ μ (.dat d) μ1) : Ev F (tCB (rIsiT K) (tCons te (tCons (tTup (tCons (tC (.ty T)) (tCons (tC (.ty U)) tNil))) tNil))) ρ μ (.dat (.bl (b || c))) μ1 := fun as σ H R Q k =>
  h as σ H R _ fun v as1 H1 R1 p1 a1 x1 => ⟨Nat.le_trans (show (2 : Nat) ≤ 3 by decide) (by decide), fun p np => by
    have sm : Same H1 (upd H1 p (.tup [V.ty T, V.ty U])) := same_upd np
    refine ⟨v, p, [V.ty T, V.ty U], .type t, [.type T, .type U], b || c, rfl, upd_same, .cons (.ty T) (.cons (.ty U) .nil), dat_ty ((dat_slot x1).mono (.of (Adv.ge (.same sm)))) ht, ?_, k _ as1 _ (R1.same sm) p1 (a1.trans (.same sm)) ⟨_, rfl, .bl _⟩⟩
    refine kitAny_cons (b := b) (kit_ty hb) (fun e => ?_) (fun e => by rw [e]; rfl)
    subst e
    refine kitAny_cons (b := c) (kit_ty hc) (fun e => ?_) (fun e => by rw [e]; rfl)
    subst e
    exact kitAny_nil⟩
end
section
variable {X : Cx} {K : PySem.W.Frag} (e : X.K = K)
include e
theorem k_isi : CallR X (.builtin "isinstance") (rIsi K) := by subst e; exact call_isi
theorem k_isiT : CallR X (.builtin "isinstance") (rIsiT K) := by subst e; exact call_isiT
end
end Dl
end
section
set_option Elab.async false
set_option maxRecDepth 100000
set_option maxHeartbeats 4000000
set_option linter.all false
namespace Dl
open PySem L2
/-! ### names, lists -/
def digs : Str := "0123456789"
def nameOk (x : Str) : Bool := decide (1 ≤ x.length ∧ x.length ≤ 8) && (decide (x.cps.toList.getD 0 0 ∈ alpha.cps.toList) && x.cps.toList.all fun c => decide (c ∈ (alpha ++ digs).cps.toList))
inductive R_is_name : List D → D → Prop
  | mk (x : Str) (h : x.length ≤ 1000) : R_is_name [.str x] (.bl (nameOk x))
inductive R_is_list : List D → D → Prop
  | lst (ds : List D) : R_is_list [.lst ds] (.bl true)
  | tup (ds : List D) : R_is_list [.tup ds] (.bl true)
inductive R_contains : List D → D → Prop
  | mk (ms os : List Str) (h : os.length ≤ 1000) : R_contains [encL ms, encL os] (.bl (os.all fun c => decide (c ∈ ms)))
structure Gb (mg : Str → Option Value) : Prop where
  g_LETTERS : ∃ u, mg "LETTERS" = some u ∧ RelV (.str alpha) u
  g_DIGITS : ∃ u, mg "DIGITS" = some u ∧ RelV (.str digs) u
  g_LONGEST : ∃ u, mg "LONGEST_NAME" = some u ∧ RelV (.int 8) u
section
variable {P : Program} {w : World} {K : PySem.W.Frag} {mg : Str → Option Value} {base : Heap}
abbrev s_is_name : Stmt := top 18
theorem sc_is_name : FnScope ["value", "sign"] ["value"] (C8.fnScope s_is_name) := C8.fnScope_by (by decide +kernel)
theorem ok_is_name {f : Addr} {fd : FuncData} (Fd : C8.Def K mg "is_name" s_is_name f fd) (b : Binds K fd ["value"] []) (T : Bi mg) (G : Gb mg) : C8.Cal P w K mg base 1 "is_name" (spF R_is_name) [] := by
  refine C8.cal0 Fd b .nil sc_is_name (len_F fun ds d h => by cases h; rfl) fun cdv A outer s H vs Q E hr h => ?_
  refine ⟨_, (pss_cons (ps_if (PW.pt (pw_or (pt_not (pt_val (pe_callB (k_isi rfl) (by rfl) T.b_isinstance PyProof.Rows.boot_isinstance (pa_cons (pv 0) (pa_cons (pe_bltn (v := .ty "str") (u := .type "str") (by rfl) T.b_str (by decide +kernel) rfl) pa_nil))))) (pw_or1 (pt_not (pt_chain op_le op_le pe_int (pe_callB call_len_str (by rfl) T.b_len PySem.boot_len (pa_cons (pv 0) pa_nil)) (C8.pe_gc (by rfl) G.g_LONGEST))))))
      (pss_one (ps_ret pe_bl)) pss_nil)
      (pss_one (ps_ret (pe_and (pe_cmpR op_in_sign (pe_ix ix_str (pv 0) pe_int (fun _ _ => rfl)) (C8.pe_gc (by rfl) G.g_LETTERS) (by rfl)) (pe_one (pe_callB (k_all rfl rfl) (by rfl) T.b_all (by decide +kernel) (pa_cons (pe_lc (own := [("sign", 1)]) (g := gName 1) (tt := tYes) rfl sc_is_name.nd (pi_str (pv 0)) (blkOk_by (N := ["value", "sign"]) (sc := C8.fnScope s_is_name) (by decide +kernel)) (fun _ _ _ _ _ => (pg_name (i := 1) sc_is_name.nd rfl (by first | exact Or.inl rfl | exact Or.inr rfl))) (fun _ _ _ _ _ => pts_nil) (fun _ _ _ _ _ => (pe_cmpR op_in_sign (pv 1) (pe_op op_add_str (C8.pe_gc (by rfl) G.g_LETTERS) (C8.pe_gc (by rfl) G.g_DIGITS)) (by rfl)))) pa_nil))))))), run_F h ?_⟩
  rintro _ _ ⟨x, hx⟩ F -
  have hs1000 : (1000 : Nat) ≤ sizeLine := by decide
  by_cases hl : 1 ≤ x.length ∧ x.length ≤ 8
  · refine ⟨_, .rt [], ?_⟩
    have e0 : nameOk x = (decide (x.cps.toList.getD 0 0 ∈ alpha.cps.toList) && x.cps.toList.all fun c => decide (c ∈ (alpha ++ digs).cps.toList)) := by
      unfold nameOk
      rw [decide_eq_true hl, Bool.true_and]
    rw [e0]
    have e1 : (!(decide ((1 : Int) ≤ (x.length : Nat)) && decide (((x.length : Nat) : Int) ≤ 8))) = false := by
      rw [decide_eq_true (by omega), decide_eq_true (by omega)]
      rfl
    refine ws_seq (ws_if (b := false) (ev_tmu (ev_teq (evt_or (evt_not (evt_val (ev_isi (t := "str") (b := true) rfl (by decide +kernel) (ev_var 0 rfl (by simp))))) fun h => (evt_not (evt_test (ev_chain opd_le opd_le (ev_int _) (ev_cb (ds := [.str x]) (cd_lenS (Nat.le_trans hx hs1000)) (eva_cons (ev_var 0 rfl (by simp)) eva_nil)) (ev_int _))))) (by rw [e1]; rfl)) (by split <;> rfl)) (fun e => by cases e) (fun _ => ws_next)) ?_
    refine ws_ret (ev_and (ev_op opd_inSign (ev_op (opd_ixS (Nat.le_trans hx hs1000) (sign_at (z := x) (i := 0) (by omega))) (ev_var 0 rfl (by simp)) (ev_int _)) (ev_str _)) fun h => (ev_allF (α := Nat) (enc := fun c => .str ⟨#[c]⟩) (xs := x.cps.toList) (q := fun c => decide (c ∈ (alpha ++ digs).cps.toList)) (evi_str (ev_var 0 rfl (by simp))) ?_ ?_ (fun F' z => evg_name 1) (fun F' z hx => (ev_op opd_inSign (ev_var 1 rfl (by simp)) (ev_op (opd_adds ?_) (ev_str _) (ev_str _))))))
    · intro i hi
      cases List.mem_singleton.mp hi
      rfl
    · show x.cps.size ≤ _
      have : x.cps.size ≤ 8 := hl.2
      omega
    · decide +kernel
  · refine ⟨_, .rt [], ?_⟩
    have e0 : nameOk x = false := by
      unfold nameOk
      rw [decide_eq_false hl]
      rfl
    rw [e0]
    have e1 : (!(decide ((1 : Int) ≤ (x.length : Nat)) && decide (((x.length : Nat) : Int) ≤ 8))) = true := by
      by_cases h1 : 1 ≤ x.length
      · rw [decide_eq_false (p := ((x.length : Nat) : Int) ≤ 8) (by omega), Bool.and_false]
        rfl
      · rw [decide_eq_false (p := (1 : Int) ≤ (x.length : Nat)) (by omega)]
        rfl
    exact ws_seq_rt (ws_if (b := true) (ev_tmu (ev_teq (evt_or (evt_not (evt_val (ev_isi (t := "str") (b := true) rfl (by decide +kernel) (ev_var 0 rfl (by simp))))) fun h => (evt_not (evt_test (ev_chain opd_le opd_le (ev_int _) (ev_cb (ds := [.str x]) (cd_lenS (Nat.le_trans hx hs1000)) (eva_cons (ev_var 0 rfl (by simp)) eva_nil)) (ev_int _))))) (by rw [e1]; rfl)) (by split <;> rfl)) (fun _ => ws_ret (ev_bl _)) (fun e => by cases e))
abbrev s_is_list : Stmt := top 19
theorem sc_is_list : FnScope ["value"] ["value"] (C8.fnScope s_is_list) := C8.fnScope_by (by decide +kernel)
theorem ok_is_list {f : Addr} {fd : FuncData} (Fd : C8.Def K mg "is_list" s_is_list f fd) (b : Binds K fd ["value"] []) (T : Bi mg) : C8.Cal P w K mg base 1 "is_list" (spF R_is_list) [] := by
  refine C8.cal0 Fd b .nil sc_is_list (len_F fun ds d h => by cases h <;> rfl) fun cdv A outer s H vs Q E hr h => ?_
  refine ⟨_, (pss_one (ps_ret (pe_callB (k_isiT rfl) (by rfl) T.b_isinstance PyProof.Rows.boot_isinstance (pa_cons (pv 0) (pa_cons (pe_tup (pa_cons (pe_bltn (v := .ty "list") (u := .type "list") (by rfl) T.b_list (by decide +kernel) rfl) (pa_cons (pe_bltn (v := .ty "tuple") (u := .type "tuple") (by rfl) T.b_tuple (by decide +kernel) rfl) pa_nil))) pa_nil))))), run_F h ?_⟩
  rintro _ _ (⟨ds⟩ | ⟨ds⟩) F -
  · exact ⟨_, .rt [], ws_ret (ev_isi2 (t := "list") (b := true) (c := false) rfl (by decide +kernel) (by decide +kernel) (ev_var 0 rfl (by simp)))⟩
  · exact ⟨_, .rt [], ws_ret (ev_isi2 (t := "tuple") (b := false) (c := true) rfl (by decide +kernel) (by decide +kernel) (ev_var 0 rfl (by simp)))⟩
end
end Dl
end
section
set_option Elab.async false
set_option maxRecDepth 100000
set_option maxHeartbeats 4000000
set_option linter.all false
namespace Dl
open PySem L2
theorem nameOk_len {x : Str} (h : nameOk x = true) : 1 ≤ x.length ∧ x.length ≤ 8 := by
  unfold nameOk at h
  exact of_decide_eq_true (Bool.and_eq_true_iff.mp h).1
theorem cut_take {xs : List Str} {i : Nat} : cutD (xs.map D.str) none (some ((i : Nat) : Int)) = (xs.take i).map .str := by
  unfold cutD
  rw [HT.sIx_none, HT.sIx_nat, List.length_map, List.drop_zero, Nat.sub_zero, ← List.map_take]
  congr 1
  rw [List.take_eq_take_iff]
  omega
theorem not_in_take {xs : List Str} (h : xs.Nodup) {i : Nat} {x : Str} (e : xs[i]? = some x) : x ∉ xs.take i := by
  intro q
  obtain ⟨j, hj, ej⟩ := List.mem_iff_getElem.mp q
  have hi : i < xs.length := (List.getElem?_eq_some_iff.mp e).1
  rw [List.length_take] at hj
  rw [List.getElem_take] at ej
  have h1 : xs[j]? = some x := by rw [List.getElem?_eq_getElem (by omega), ej]
  have := (List.getElem?_inj (by omega) h).mp (h1.trans e.symm)
  omega
theorem enum_at {xs : List Str} {i : Nat} {d : D} (h : (xs.zipIdx.map fun p => D.tup [.int (p.2 : Nat), .str p.1])[i]? = some d) : ∃ x, xs[i]? = some x ∧ d = .tup [.int (i : Nat), .str x] := by
  rw [List.getElem?_map, List.getElem?_zipIdx] at h
  cases e : xs[i]? with
  | none => rw [e] at h; cases h
  | some x =>
    rw [e] at h
    cases h
    exact ⟨x, rfl, by rw [Nat.zero_add]⟩
inductive R_check_counters : List D → D → Prop
  | mk (cs : List Str) (h : cs.length ≤ 1000) (hn : ∀ x ∈ cs, nameOk x = true) (nd : cs.Nodup) : R_check_counters [encL cs] .non
/-- groups that lie apart or within one another, not the same -/
def apart (ms os : List Str) : Prop := ¬ ((ms.filter fun c => decide (c ∈ os)).length = ms.length ∧ ms.length = os.length) ∧ ¬ (0 < (ms.filter fun c => decide (c ∈ os)).length ∧ (ms.filter fun c => decide (c ∈ os)).length < min ms.length os.length)
inductive R_check_apart : List D → D → Prop
  | mk (n e : Str) (ms os : List Str) (h : ms.length ≤ 1000) (h2 : os.length ≤ 1000) (ap : apart ms os) : R_check_apart [.str n, encL ms, .str e, encL os] .non
section
variable {P : Program} {w : World} {K : PySem.W.Frag} {mg : Str → Option Value} {base : Heap}
abbrev s_check_counters : Stmt := top 26
theorem sc_check_counters : FnScope ["counters", "position", "counter"] ["counters"] (C8.fnScope s_check_counters) := C8.fnScope_by (by decide +kernel)
theorem ok_check_counters {f : Addr} {fd : FuncData} (Fd : C8.Def K mg "check_counters" s_check_counters f fd) (b : Binds K fd ["counters"] []) (T : Bi mg) (c_is_name : C8.Cal P w K mg base 1 "is_name" (spF R_is_name) []) : C8.Cal P w K mg base 2 "check_counters" (spF R_check_counters) [] := by
  refine C8.cal0 Fd b .nil sc_check_counters (len_F fun ds d h => by cases h; rfl) fun cdv A outer s H vs Q E hr h => ?_
  refine ⟨_, (pss_one (ps_for PassesOwn.never rfl (pi_enum (by rfl) T.b_enumerate (pa_cons (pv 0) pa_nil)) (pg_tup rfl (pgs_cons (pg_name (i := 1) sc_check_counters.nd rfl (by first | exact Or.inl rfl | exact Or.inr rfl)) (pgs_cons (pg_name (i := 2) sc_check_counters.nd rfl (by first | exact Or.inl rfl | exact Or.inr rfl)) pgs_nil)))
      (pss_cons (ps_if (pt_not (pt_val (C8.pe_c c_is_name hr (by decide) rfl (pa_cons (pv 2) pa_nil))))
      (pss_one ps_never) pss_nil)
      (pss_one (ps_if (pt_cmpR op_in_seq (pv 2) (pe_slice sl_list (pv 0) po_none (po_some (pv 1))) (by rfl))
      (pss_one ps_never) pss_nil))))), run_F h ?_⟩
  rintro _ _ ⟨cs, hcs, hn, nd⟩ F -
  have hs1000 : (1000 : Nat) ≤ sizeLine := by decide
  refine ⟨.nx [.dat (encL cs), .un, .un] [], .nx _ _ rfl, ?_⟩
  refine ws_forN cs.length [1, 2] (fun _ => ([.dat (encL cs), .un, .un], [])) (ev_enumS (ev_var 0 rfl (by simp))) rfl (by rw [List.length_map, List.length_zipIdx]) ?turn
  intro i d hd
  obtain ⟨x, ex, rfl⟩ := enum_at hd
  have hx := hn x (List.mem_of_getElem? ex)
  have hx8 := (nameOk_len hx).2
  refine ⟨_, evg_tup2 1 2, .inl (ws_weak (ρ1 := [.dat (encL cs), .dat (.int (i : Nat)), .dat (.str x)]) ?_ ?_)⟩
  rotate_left
  · repeat first | exact .nil | refine .cons (.inl rfl) ?_ | refine .cons (.inr rfl) ?_
  refine ws_seq (ws_if (b := false) (ev_teq (evt_not (evt_val (ev_callF (ds := [.str x]) (R_is_name.mk x (by omega)) (eva_cons (ev_var 2 rfl (by simp)) eva_nil)))) (by rw [hx]; rfl)) (fun e => by cases e) (fun _ => ws_next)) ?_
  refine ws_if (b := false) (ev_teq (evt_test (ev_op (opd_inS (xs := cs.take i)) (ev_var 2 rfl (by simp)) (ev_eqd (ev_sliceL (ev_var 0 rfl (by simp)) evo_none (evo_some (ev_var 1 rfl (by simp)))) (congrArg D.lst cut_take)))) (decide_eq_false (not_in_take nd ex))) (fun e => by cases e) (fun _ => ws_next)
abbrev s_check_apart : Stmt := top 29
theorem sc_check_apart : FnScope ["name", "members", "earlier", "others", "shared", "counter"] ["name", "members", "earlier", "others"] (C8.fnScope s_check_apart) := C8.fnScope_by (by decide +kernel)
theorem ok_check_apart {f : Addr} {fd : FuncData} (Fd : C8.Def K mg "check_apart" s_check_apart f fd) (b : Binds K fd ["name", "members", "earlier", "others"] []) (T : Bi mg) : C8.Cal P w K mg base 1 "check_apart" (spF R_check_apart) [] := by
  refine C8.cal0 Fd b .nil sc_check_apart (len_F fun ds d h => by cases h; rfl) fun cdv A outer s H vs Q E hr h => ?_
  refine ⟨_, (pss_cons (ps_setLc (i := 4) (own := [("counter", 5)]) (g := gName 5) rfl sc_check_apart.nd rfl rfl (sw_true rfl rfl rfl (by decide +kernel)) (pi_list (pv 1)) (blkOk_by (N := ["name", "members", "earlier", "others", "shared", "counter"]) (sc := C8.fnScope s_check_apart) (by decide +kernel)) (fun _ _ _ _ _ => (pg_name (i := 5) sc_check_apart.nd rfl (by first | exact Or.inl rfl | exact Or.inr rfl))) (fun _ _ _ _ _ => (pts_one (pt_cmpR (k_in rfl) (pv 5) (pv 3) (by rfl)))) (fun _ _ _ _ _ => (pv 5)))
      (pss_cons (ps_if (pt_chain op_eq op_eq (pe_callB call_len_seq (by rfl) T.b_len PySem.boot_len (pa_cons (pv 4) pa_nil)) (pe_callB call_len_seq (by rfl) T.b_len PySem.boot_len (pa_cons (pv 1) pa_nil)) (pe_callB call_len_seq (by rfl) T.b_len PySem.boot_len (pa_cons (pv 3) pa_nil)))
      (pss_one ps_never) pss_nil)
      (pss_one (ps_if (pt_chain op_lt op_lt pe_int (pe_callB call_len_seq (by rfl) T.b_len PySem.boot_len (pa_cons (pv 4) pa_nil)) (pe_callB (call_min2 rfl) (by rfl) T.b_min (by decide +kernel) (pa_cons (pe_callB call_len_seq (by rfl) T.b_len PySem.boot_len (pa_cons (pv 1) pa_nil)) (pa_cons (pe_callB call_len_seq (by rfl) T.b_len PySem.boot_len (pa_cons (pv 3) pa_nil)) pa_nil))))
      (pss_one ps_never) pss_nil)))), run_F h ?_⟩
  rintro _ _ ⟨n, e, ms, os, h1, h2, ap⟩ F -
  let sh : List Str := ms.filter fun c => decide (c ∈ os)
  have hsh : sh.length ≤ ms.length := List.length_filter_le _ _
  refine ⟨.nx [.dat (.str n), .dat (encL ms), .dat (.str e), .dat (encL os), .dat (encL sh), .un] [], .nx _ _ rfl, ?_⟩
  refine ws_seq (ws_set 4 (ev_lcF (α := Str) (enc := .str) (xs := ms) (p := fun c => decide (c ∈ os)) (f := fun x => D.str x) (evi_list (ev_var 1 rfl (by simp))) ?a1 ?a2 (fun F' z => evg_name 5) (fun F' z hx => (evt_test (ev_op opd_inS (ev_var 5 rfl (by simp)) (ev_var 3 rfl (by simp))))) (fun F' z hx hp => (ev_var 5 rfl (by simp))))) ?_
  case a1 =>
    intro i hi
    cases List.mem_singleton.mp hi
    rfl
  case a2 => omega
  have lm : ∀ xs : List Str, (((xs.map D.str).length : Nat) : Int) = (xs.length : Nat) := fun xs => by rw [List.length_map]
  refine ws_seq (ws_if (b := false) (ev_teq (evt_test (ev_chain opd_eqI opd_eqI (ev_cb (ds := [_]) cd_len (eva_cons (ev_var 4 rfl (by simp)) eva_nil)) (ev_cb (ds := [_]) cd_len (eva_cons (ev_var 1 rfl (by simp)) eva_nil)) (ev_cb (ds := [_]) cd_len (eva_cons (ev_var 3 rfl (by simp)) eva_nil)))) ?b1) (fun e => by cases e) (fun _ => ws_next)) ?_
  case b1 =>
    have q := ap.1
    rw [lm, lm, lm]
    by_cases q1 : sh.length = ms.length
    · rw [decide_eq_false (p := ((ms.length : Nat) : Int) = (os.length : Nat)) (fun e => q ⟨q1, by omega⟩), Bool.and_false]
    · rw [decide_eq_false (p := ((sh.length : Nat) : Int) = (ms.length : Nat)) (fun e => q1 (by omega)), Bool.false_and]
  refine ws_if (b := false) (ev_teq (evt_test (ev_chain opd_lt opd_lt (ev_int _) (ev_cb (ds := [_]) cd_len (eva_cons (ev_var 4 rfl (by simp)) eva_nil)) (ev_cb (ds := [_, _]) cd_min (eva_cons (ev_cb (ds := [_]) cd_len (eva_cons (ev_var 1 rfl (by simp)) eva_nil)) (eva_cons (ev_cb (ds := [_]) cd_len (eva_cons (ev_var 3 rfl (by simp)) eva_nil)) eva_nil))))) ?b2) (fun e => by cases e) (fun _ => ws_next)
  case b2 =>
    have q := ap.2
    rw [lm, lm, lm]
    by_cases q1 : 0 < sh.length
    · rw [decide_eq_false (p := ((sh.length : Nat) : Int) < _) (fun e => q ⟨q1, by split at e <;> (show sh.length < _; omega)⟩), Bool.and_false]
    · rw [decide_eq_false (p := (0 : Int) < (sh.length : Nat)) (fun e => q1 (by omega)), Bool.false_and]
end
end Dl
end
section
set_option Elab.async false
set_option maxRecDepth 100000
set_option maxHeartbeats 4000000
set_option linter.all false
namespace Dl
open PySem L2
/-- what a group of a book is -/
structure groupOk (cs : List Str) (g : Str × List Str) : Prop where
  nm : nameOk g.1 = true
  two : 2 ≤ g.2.length
  top : g.2.length ≤ 1000
  ms : ∀ m ∈ g.2, nameOk m = true ∧ m ∈ cs
  nd : g.2.Nodup
def groupD (g : Str × List Str) : D := .tup [.str g.1, encL g.2]
inductive R_is_group : List D → D → Prop
  | mk (cs : List Str) (g : Str × List Str) (h : groupOk cs g) : R_is_group [encL cs, groupD g] (.bl true)
section
variable {P : Program} {w : World} {K : PySem.W.Frag} {mg : Str → Option Value} {base : Heap}
abbrev s_is_group : Stmt := top 28
theorem sc_is_group : FnScope ["counters", "group", "name", "members", "position", "member"] ["counters", "group"] (C8.fnScope s_is_group) := C8.fnScope_by (by decide +kernel)
theorem ok_is_group {f : Addr} {fd : FuncData} (Fd : C8.Def K mg "is_group" s_is_group f fd) (b : Binds K fd ["counters", "group"] []) (T : Bi mg) (c_is_name : C8.Cal P w K mg base 1 "is_name" (spF R_is_name) []) (c_is_list : C8.Cal P w K mg base 1 "is_list" (spF R_is_list) []) : C8.Cal P w K mg base 2 "is_group" (spF R_is_group) [] := by
  refine C8.cal0 Fd b .nil sc_is_group (len_F fun ds d h => by cases h; rfl) fun cdv A outer s H vs Q E hr h => ?_
  refine ⟨_, (pss_cons (ps_if (PW.pt (pw_or (pt_not (pt_val (pe_callB (k_isi rfl) (by rfl) T.b_isinstance PyProof.Rows.boot_isinstance (pa_cons (pv 1) (pa_cons (pe_bltn (v := .ty "tuple") (u := .type "tuple") (by rfl) T.b_tuple (by decide +kernel) rfl) pa_nil))))) (pw_or1 (pt_cmpR op_ne (pe_callB (k_len rfl) (by rfl) T.b_len PySem.boot_len (pa_cons (pv 1) pa_nil)) pe_int (nomark _)))))
      (pss_one (ps_ret pe_bl)) pss_nil)
      (pss_cons (ps_asg (pv 1) (pg_tup rfl (pgs_cons (pg_name (i := 2) sc_is_group.nd rfl (by first | exact Or.inl rfl | exact Or.inr rfl)) (pgs_cons (pg_name (i := 3) sc_is_group.nd rfl (by first | exact Or.inl rfl | exact Or.inr rfl)) pgs_nil))))
      (pss_cons (ps_if (PW.pt (pw_or (pt_not (pt_val (C8.pe_c c_is_name hr (by decide) rfl (pa_cons (pv 2) pa_nil)))) (pw_or (pt_not (pt_val (C8.pe_c c_is_list hr (by decide) rfl (pa_cons (pv 3) pa_nil)))) (pw_or1 (pt_cmpR op_lt (pe_callB (k_len rfl) (by rfl) T.b_len PySem.boot_len (pa_cons (pv 3) pa_nil)) pe_int (nomark _))))))
      (pss_one (ps_ret pe_bl)) pss_nil)
      (pss_cons (ps_for PassesOwn.never rfl (pi_enum (by rfl) T.b_enumerate (pa_cons (pv 3) pa_nil)) (pg_tup rfl (pgs_cons (pg_name (i := 4) sc_is_group.nd rfl (by first | exact Or.inl rfl | exact Or.inr rfl)) (pgs_cons (pg_name (i := 5) sc_is_group.nd rfl (by first | exact Or.inl rfl | exact Or.inr rfl)) pgs_nil)))
      (pss_one (ps_if (PW.pt (pw_or (pt_not (pt_val (C8.pe_c c_is_name hr (by decide) rfl (pa_cons (pv 5) pa_nil)))) (pw_or (pt_cmpR (k_notIn rfl) (pv 5) (pv 0) (by rfl)) (pw_or1 (pt_cmpR (k_in rfl) (pv 5) (pe_slice (k_slL rfl) (pv 3) po_none (po_some (pv 4))) (by rfl))))))
      (pss_one (ps_ret pe_bl)) pss_nil)))
      (pss_one (ps_ret pe_bl)))))), run_F h ?_⟩
  rintro _ _ ⟨cs, ⟨n, ms⟩, hg⟩ F -
  have lm : ∀ xs : List Str, (((xs.map D.str).length : Nat) : Int) = (xs.length : Nat) := fun xs => by rw [List.length_map]
  have hn : nameOk n = true := hg.nm
  have h2 : 2 ≤ ms.length := hg.two
  have h1000 : ms.length ≤ 1000 := hg.top
  refine ⟨_, .rt [], ?_⟩
  refine ws_seq (ws_if (b := false) (ev_tmu (μ2 := []) (ev_teq (evt_or (evt_not (evt_val (ev_isi (t := "tuple") (b := true) rfl (by decide +kernel) (ev_var 1 rfl (by simp))))) fun h => (evt_test (ev_op opd_neI (ev_cb (ds := [groupD (n, ms)]) cd_lenT (eva_cons (ev_var 1 rfl (by simp)) eva_nil)) (ev_int _)))) rfl) rfl) (fun e => by cases e) (fun _ => ws_next)) ?_
  refine ws_seq (ρ1 := [.dat (encL cs), .dat (groupD (n, ms)), .dat (.str n), .dat (encL ms), .un, .un]) (μ1 := []) (ws_asg (ev_var 1 rfl (by simp)) (wg_tup rfl (wgs_cons (wg_name 2) (wgs_cons (wg_name 3) wgs_nil)))) ?_
  refine ws_seq (ws_if (b := false) (ev_tmu (μ2 := []) (ev_teq (evt_or (evt_not (evt_val (ev_callF (ds := [.str n]) (R_is_name.mk n (by have := (nameOk_len hn).2; omega)) (eva_cons (ev_var 2 rfl (by simp)) eva_nil)))) fun h => (evt_or (evt_not (evt_val (ev_callF (ds := [encL ms]) (R_is_list.lst _) (eva_cons (ev_var 3 rfl (by simp)) eva_nil)))) fun h => (evt_test (ev_op opd_lt (ev_cb (ds := [_]) cd_len (eva_cons (ev_var 3 rfl (by simp)) eva_nil)) (ev_int _))))) ?b1) ?b2) (fun e => by cases e) (fun _ => ws_next)) ?_
  case b1 =>
    rw [hn, lm, decide_eq_false (p := ((ms.length : Nat) : Int) < 2) (by omega)]
    rfl
  case b2 => rw [hn]; rfl
  refine ws_seq (ρ1 := [.dat (encL cs), .dat (groupD (n, ms)), .dat (.str n), .dat (encL ms), .un, .un]) (μ1 := []) (ws_forN ms.length [4, 5] (fun _ => ([.dat (encL cs), .dat (groupD (n, ms)), .dat (.str n), .dat (encL ms), .un, .un], [])) (ev_enumS (ev_var 3 rfl (by simp))) rfl (by rw [List.length_map, List.length_zipIdx]) ?turn) (ws_ret (ev_bl _))
  intro i d hd
  obtain ⟨x, ex, rfl⟩ := enum_at hd
  obtain ⟨hx, hxc⟩ := hg.ms x (List.mem_of_getElem? ex)
  have hx8 := (nameOk_len hx).2
  refine ⟨_, evg_tup2 4 5, .inl (ws_weak (ρ1 := [.dat (encL cs), .dat (groupD (n, ms)), .dat (.str n), .dat (encL ms), .dat (.int (i : Nat)), .dat (.str x)]) ?_ ?_)⟩
  rotate_left
  · repeat first | exact .nil | refine .cons (.inl rfl) ?_ | refine .cons (.inr rfl) ?_
  refine ws_if (b := false) (ev_tmu (μ2 := []) (ev_teq (evt_or (evt_not (evt_val (ev_callF (ds := [.str x]) (R_is_name.mk x (by omega)) (eva_cons (ev_var 5 rfl (by simp)) eva_nil)))) fun h => (evt_or (evt_test (ev_op opd_notinS (ev_var 5 rfl (by simp)) (ev_var 0 rfl (by simp)))) fun h => (evt_test (ev_op (opd_inS (xs := ms.take i)) (ev_var 5 rfl (by simp)) (ev_eqd (ev_sliceL (ev_var 3 rfl (by simp)) evo_none (evo_some (ev_var 4 rfl (by simp)))) (congrArg D.lst cut_take)))))) ?c1) ?c2) (fun e => by cases e) (fun _ => ws_next)
  case c1 =>
    rw [hx, decide_eq_true hxc, decide_eq_false (not_in_take hg.nd ex)]
    rfl
  case c2 => rw [hx, decide_eq_true hxc]; rfl
end
end Dl
end
section
set_option Elab.async false
set_option maxRecDepth 100000
set_option linter.all false
namespace Dl
open PySem L2
theorem prefix_len1 {as bs : List Addr} (p : as <+: bs) (h : as.length = bs.length) : bs = as := by
  obtain ⟨l, rfl⟩ := p
  rw [List.length_append] at h
  have : l = [] := List.length_eq_zero_iff.mp (by omega)
  rw [this, List.append_nil]
/-- a walk over the keys of the def's only cell, a dict; the body is a call that only reads -/
theorem ws_keysC {F : Fm} {ρ : List Slot} {i v : Nat} {es : List (Key × D)} {te : TE} (hi : ρ[i]? = some (.cell 0)) (hv : ρ[v]? = some .un)
    (turn : ∀ F' e, e ∈ es → ∃ dd, Ev F' te ((ρ.set i (.dat (.dic es))).set v (.dat (keyD e.1))) [.dead] (.dat dd) [.dead]) :
    Ws F (tLS (tFor (iKeys (tVar i)) (gName v) (tDrop te))) ρ [.dic es] (.nx ρ [.dic es]) := fun as σ H R E k => by
  obtain ⟨so, e, x⟩ := R.slot hi
  obtain ⟨p, hp, q⟩ := x
  subst q
  obtain ⟨q, hq, kvs, el, xl⟩ := R.cell (k := 0) rfl
  rw [hp] at hq
  cases hq
  obtain ⟨Rk, ak, np⟩ := R.kill (k := 0) rfl rfl hp
  have Rk : Rel F ρ [.dead] as σ H := Rk
  have ak : Adv (hid [.dic es] as) (hid [.dead] as) H H := ak
  have np : p ∉ hid [.dead] as ++ F.z := np
  have dk : DatK (Hide (hid [.dead] as ++ F.z) H) kvs es := xl.mono (.of ak.ge)
  have hset : σ.set i (some (.ref p)) = σ := by
    have h1 := (List.getElem?_eq_some_iff.mp e).1
    have h2 := (List.getElem?_eq_some_iff.mp e).2
    rw [← h2, List.set_getElem_self]
  have R0 : Rel F (ρ.set i (.dat (.dic es))) [.dead] as σ H := by
    have h := Rk.put (s := .dat (.dic es)) i (v := .ref p) ⟨_, rfl, .dic (.inl (by rw [hide_out np]; exact el)) dk⟩
    rw [hset] at h
    exact h
  have hslot : (ρ.set i (.dat (.dic es)))[i]? = some (.dat (.dic es)) := by
    have : i < ρ.length := (List.getElem?_eq_some_iff.mp hi).1
    simp [this]
  have hlen : as.length = 1 := by have := pd_len R.cells; simpa using this.symm
  have hd0 : hid [Cell.dead] as = [] := by
    cases as with
    | nil => rfl
    | cons a l => simp [hid, Cell.live]
  left
  refine ⟨p, .dK kvs, el, trivial, fun od => ?_⟩
  have R1 := lock_in R0 el np od
  have L : Lk (tVar i) (hid [.dead] as ++ (F.lock p (.frz od (.dK kvs))).z) σ (upd H p (.frz od (.dK kvs))) es p kvs od := ⟨np, upd_same, dk.mono (ge_lock el), fun Q q => ⟨_, e, q⟩⟩
  refine (evi_keys_at L) R1 _ fun J as1 H1 R1' p1 a1 ⟨G, Y, w, st, yd⟩ => ?_
  have ea : as1 = as := prefix_len1 p1 (by have := pd_len R1'.cells; simp at this; omega)
  subst ea
  refine for_it w (fun j σ' H' => (∃ o, σ' = σ.set v o) ∧ Rel (F.lock p (.frz od (.dK kvs))) (ρ.set i (.dat (.dic es))) [.dead] as1 σ H' ∧ Adv (hid [.dead] as1) (hid [.dead] as1) H1 H') ?_ (fun j σ' H' _ h => st _ H' h.2.2.ge) ?_ ?_
  · refine ⟨?_, R1', .refl _ _⟩
    obtain ⟨sv, ev, _⟩ := R.slot hv
    refine ⟨sv, ?_⟩
    have h1 := (List.getElem?_eq_some_iff.mp ev).1
    have h2 := (List.getElem?_eq_some_iff.mp ev).2
    rw [← h2, List.set_getElem_self]
  · rintro j x σ' H' H'' hlt ⟨⟨o, rfl⟩, RR, aa⟩ y
    obtain ⟨d, hd⟩ : ∃ d, (es.map fun e => keyD e.1)[j]? = some d := ⟨_, List.getElem?_eq_getElem hlt⟩
    obtain ⟨sm, dx⟩ := yd j d x _ H' H'' hd aa.ge RR.live y
    rw [List.getElem?_map] at hd
    obtain ⟨e', ee, rfl⟩ := Option.map_eq_some_iff.mp hd
    obtain ⟨dd, he⟩ := turn (F.lock p (.frz od (.dK kvs))) e' (List.mem_of_getElem? ee)
    have R2 := RR.same sm
    have R3 := R2.put (s := .dat (keyD e'.1)) v (v := x) ⟨_, rfl, dx⟩
    show tDrop te _ ((σ.set v o).set v (some x)) H''
    rw [List.set_set]
    refine he as1 (σ.set v (some x)) H'' R3 _ fun v' as2 H3 R4 p2 a2 sv => ?_
    have ea : as2 = as1 := prefix_len1 p2 (by have h1 := pd_len R4.cells; have h2 := pd_len R3.cells; omega)
    subst ea
    exact ⟨⟨_, rfl⟩, { R4 with slots := pd_imp R2.slots fun s o q => SlotOk.adv a2 q }, (aa.trans (.same sm)).trans a2⟩
  · rintro σ' H' ⟨⟨o, rfl⟩, RR, aa⟩
    obtain ⟨e', R2, a2, g⟩ := lock_out R0 el np RR (a1.trans aa)
    refine ⟨e', k as1 (σ.set v o) _ ⟨?_, p1, ?_⟩⟩
    · have keep : ∀ b u, H b = some u → upd H' p (.dK kvs) b = some u := fun b u q => a2.keep b u (by rw [hd0]; simp) q
      have sm : Same (Hide (hid [.dic es] as1 ++ F.z) H) (Hide (hid [.dic es] as1 ++ F.z) (upd H' p (.dK kvs))) := fun b u q => by
        obtain ⟨n, q⟩ := hide_some q
        rw [hide_out n]
        exact keep b u q
      have cs : Paired (CellOk (hid [.dic es] as1 ++ F.z) as1 (upd H' p (.dK kvs))) [.dic es] as1 := by
        have h1 := R.cells
        cases h1 with
        | @cons _ a _ l c t =>
          cases t
          have : a = p := by simpa using hp
          subst this
          exact .cons ⟨kvs, upd_same, xl.mono (.of sm)⟩ .nil
      refine { cells := cs, slots := ?_, nd := R2.nd, zl := R2.zl, dj := R2.dj, base := R2.base, pre := R2.pre, fresh := R2.fresh, there := R2.there }
      exact pd_setR v (pd_imp R.slots fun s o q => SlotOk.geS (.of sm) q) hv trivial
    · exact ⟨fun b u n q => a2.keep b u (by rw [hd0]; simp) q, fun b m => .inl m⟩
end Dl
end
section
set_option Elab.async false
set_option maxRecDepth 100000
set_option maxHeartbeats 4000000
set_option linter.all false
namespace Dl
open PySem L2
theorem ev_inDC {F : Fm} {ρ : List Slot} {μ μ1 μ2 : List Cell} {tk td : TE} {n : Nat} {es : List (Key × D)} {k : Key} (hb : Ev F tk ρ μ (.dat (keyD k)) μ1) (ha : Ev F td ρ μ1 (.cell n) μ2) (hk : μ2[n]? = some (.dic es)) : Ev F (tDIn tk td) ρ μ (.dat (.bl (lookD es k).isSome)) μ2 := fun as σ H R Q kk =>
  hb as σ H R _ fun v1 as1 H1 R1 p1 a1 x1 => ha as1 σ H1 R1 _ fun v2 as2 H2 R2 p2 a2 x2 => by
    obtain ⟨p, hp, e⟩ := x2
    cases e
    obtain ⟨q, hq, kvs, el, r⟩ := R2.cell hk
    rw [hp] at hq
    cases hq
    cases dat_keyV (dat_slot x1)
    refine ⟨p, valV kvs k, rfl, .inl ⟨kvs, k, .inl el, rfl, rfl⟩, ?_⟩
    have : (valV kvs k).isSome = (lookD es k).isSome := by
      rcases r.look (k := k) with ⟨q1, q2⟩ | ⟨v, d', h1, h2, dv⟩
      · rw [q1, q2]; rfl
      · rw [h1, h2]; rfl
    rw [this]
    exact kk _ as2 H2 R2 (p1.trans p2) (a1.trans a2) ⟨_, rfl, .bl _⟩
theorem enum_gen {α : Type} (enc : α → D) (xs : List α) : enumD (xs.map enc) = xs.zipIdx.map fun p => .tup [.int (p.2 : Nat), enc p.1] := by
  unfold enumD
  rw [List.zipIdx_map, List.map_map]
  rfl
theorem ev_enumG {F : Fm} {ρ : List Slot} {μ μ1 : List Cell} {K : PySem.W.Frag} {te : TE} {α : Type} (enc : α → D) {xs : List α} (h : Ev F te ρ μ (.dat (.lst (xs.map enc))) μ1) : EvI F (iEnum K (tCons te tNil)) ρ μ (xs.zipIdx.map fun p => .tup [.int (p.2 : Nat), enc p.1]) μ1 := by
  rw [← enum_gen]
  exact evi_enum (eva_cons h eva_nil)
theorem enum_atG {α : Type} (enc : α → D) {xs : List α} {i : Nat} {d : D} (h : (xs.zipIdx.map fun p => D.tup [.int (p.2 : Nat), enc p.1])[i]? = some d) : ∃ x, xs[i]? = some x ∧ d = .tup [.int (i : Nat), enc x] := by
  rw [List.getElem?_map, List.getElem?_zipIdx] at h
  cases e : xs[i]? with
  | none => rw [e] at h; cases h
  | some x =>
    rw [e] at h
    cases h
    exact ⟨x, rfl, by rw [Nat.zero_add]⟩
def sortG (cs : List Str) (g : Str × List Str) : Str × List Str := (g.1, cs.filter fun c => decide (c ∈ g.2))
structure groupsOk (cs : List Str) (gs : List (Str × List Str)) : Prop where
  cl : cs.length ≤ 1000
  gl : gs.length ≤ 1000
  each : ∀ g ∈ gs, groupOk cs g
  nd : (gs.map (·.1)).Nodup
  out : ∀ g ∈ gs, g.1 ∉ cs
  ap : ∀ (j : Nat) (g : Str × List Str), gs[j]? = some g → ∀ g' ∈ gs.take j, apart g.2 (cs.filter fun c => decide (c ∈ g'.2))
inductive R_mog : List D → D → Prop
  | mk (cs : List Str) (gs : List (Str × List Str)) (h : groupsOk cs gs) : R_mog [encL cs, .lst (gs.map groupD)] (.dic (setsD (gs.map (sortG cs))))
section
variable {P : Program} {w : World} {K : PySem.W.Frag} {mg : Str → Option Value} {base : Heap}
abbrev s_mog : Stmt := top 27
theorem sc_mog : FnScope ["counters", "groups", "grouped", "position", "group", "name", "members", "earlier", "counter"] ["counters", "groups"] (C8.fnScope s_mog) := C8.fnScope_by (by decide +kernel)
theorem ok_mog {f : Addr} {fd : FuncData} (Fd : C8.Def K mg "members_of_groups" s_mog f fd) (b : Binds K fd ["counters", "groups"] []) (T : Bi mg) (c_is_group : C8.Cal P w K mg base 2 "is_group" (spF R_is_group) []) (c_check_apart : C8.Cal P w K mg base 1 "check_apart" (spF R_check_apart) []) : C8.Cal P w K mg base 3 "members_of_groups" (spF R_mog) [] := by
  refine C8.cal0 Fd b .nil sc_mog (len_F fun ds d h => by cases h; rfl) fun cdv A outer s H vs Q E hr h => ?_
  refine ⟨_, (pss_cons (ps_set (i := 2) sc_mog.nd rfl (by first | exact Or.inl rfl | exact Or.inr rfl) pe_dnewK)
      (pss_cons (ps_for PassesOwn.never rfl (pi_enum (by rfl) T.b_enumerate (pa_cons (pv 1) pa_nil)) (pg_tup rfl (pgs_cons (pg_name (i := 3) sc_mog.nd rfl (by first | exact Or.inl rfl | exact Or.inr rfl)) (pgs_cons (pg_name (i := 4) sc_mog.nd rfl (by first | exact Or.inl rfl | exact Or.inr rfl)) pgs_nil)))
      (pss_cons (ps_if (pt_not (pt_val (C8.pe_c c_is_group hr (by decide) rfl (pa_cons (pv 0) (pa_cons (pv 4) pa_nil)))))
      (pss_one ps_never) pss_nil)
      (pss_cons (ps_asg (pv 4) (pg_tup rfl (pgs_cons (pg_name (i := 5) sc_mog.nd rfl (by first | exact Or.inl rfl | exact Or.inr rfl)) (pgs_cons (pg_name (i := 6) sc_mog.nd rfl (by first | exact Or.inl rfl | exact Or.inr rfl)) pgs_nil))))
      (pss_cons (ps_if (PW.pt (pw_or (pt_cmpR (k_in rfl) (pv 5) (pv 0) (by rfl)) (pw_or1 (pt_cmp (pc_din (lt_units (k := 2) hr.un) (pv 5) (pv 2))))))
      (pss_one ps_never) pss_nil)
      (pss_cons (ps_le (ps_for PassesOwn.never rfl (pi_keys (pv 2)) (pg_name (i := 7) sc_mog.nd rfl (by first | exact Or.inl rfl | exact Or.inr rfl))
      (pss_one (ps_expr (C8.pe_c c_check_apart hr (by decide) rfl (pa_cons (pv 5) (pa_cons (pv 6) (pa_cons (pv 7) (pa_cons (pe_dget (lt_units (k := 2) hr.un) (pv 2) (pv 7) (fun _ _ => rfl)) pa_nil)))))))))
      (pss_one (ps_asg (pe_lc (own := [("counter", 8)]) (g := gName 8) rfl sc_mog.nd (pi_list (pv 0)) (blkOk_by (N := ["counters", "groups", "grouped", "position", "group", "name", "members", "earlier", "counter"]) (sc := C8.fnScope s_mog) (by decide +kernel)) (fun _ _ _ _ _ => (pg_name (i := 8) sc_mog.nd rfl (by first | exact Or.inl rfl | exact Or.inr rfl))) (fun _ _ _ _ _ => (pts_one (pt_cmpR (k_in rfl) (pv 8) (pv 6) (by rfl)))) (fun _ _ _ _ _ => (pv 8))) (pg_sub (pv 2) (pv 5) (set_dict (lt_units (k := 2) hr.un))))))))))
      (pss_one (ps_ret (pv 2))))), run_F h ?_⟩
  rintro _ _ ⟨cs, gs, hg⟩ F -
  have hs1000 : (1000 : Nat) < sizeLine := by decide
  have hgl := hg.gl
  have hcl := hg.cl
  refine ⟨_, .rt [.dead], ?_⟩
  refine ws_seq (ws_set 2 (ev_dnewO 0 rfl)) ?_
  let S : Nat → List Slot × List Cell := fun j => ([.dat (encL cs), .dat (.lst (gs.map groupD)), .cell 0, .un, .un, .un, .un, .un, .un], [.dic (setsD ((gs.map (sortG cs)).take j))])
  have hz : (gs.map (sortG cs)).take gs.length = gs.map (sortG cs) := List.take_of_length_le (by rw [List.length_map]; exact Nat.le_refl _)
  refine ws_seq (ρ1 := (S gs.length).1) (μ1 := (S gs.length).2) ?_ (ws_ret (ev_eqd (ev_freeK (k := 0) (ev_var 2 rfl (by simp)) rfl) (by rw [hz])))
  refine ws_forN gs.length [3, 4] S (ev_enumG groupD (ev_var 1 rfl (by simp))) rfl (by rw [List.length_map, List.length_zipIdx]) ?turn
  intro j d hd
  obtain ⟨⟨n, ms⟩, eg, rfl⟩ := enum_atG groupD hd
  have hmem := List.mem_of_getElem? eg
  have hj : j < gs.length := (List.getElem?_eq_some_iff.mp eg).1
  have hok : groupOk cs (n, ms) := hg.each _ hmem
  have hms : ms.length ≤ 1000 := hok.top
  have hout : n ∉ cs := hg.out _ hmem
  have eS1 : (gs.map (sortG cs))[j]? = some (n, cs.filter fun c => decide (c ∈ ms)) := by
    rw [List.getElem?_map, eg]
    rfl
  have hnew : n ∉ ((gs.map (sortG cs)).take j).map (·.1) := by
    have h := not_in_take hg.nd (i := j) (x := n) (by rw [List.getElem?_map, eg]; rfl)
    rw [← List.map_take, List.map_map]
    rw [← List.map_take] at h
    exact h
  have es : S (j + 1) = ([.dat (encL cs), .dat (.lst (gs.map groupD)), .cell 0, .un, .un, .un, .un, .un, .un], [.dic (putD (setsD ((gs.map (sortG cs)).take j)) (.inr n) (encL (cs.filter fun c => decide (c ∈ ms))))]) := by
    rw [setsD_put hnew]
    show (_, [Cell.dic (setsD ((gs.map (sortG cs)).take (j + 1)))]) = _
    rw [List.take_add_one, eS1]
    rfl
  have eS : S j = ([.dat (encL cs), .dat (.lst (gs.map groupD)), .cell 0, .un, .un, .un, .un, .un, .un], [.dic (setsD ((gs.map (sortG cs)).take j))]) := rfl
  have hap : ∀ e ∈ (gs.map (sortG cs)).take j, apart ms e.2 := by
    intro e he
    rw [← List.map_take] at he
    obtain ⟨g', hg', rfl⟩ := List.mem_map.mp he
    exact hg.ap j (n, ms) eg g' hg'
  have hlen : ∀ e ∈ (gs.map (sortG cs)).take j, e.2.length ≤ 1000 := by
    intro e he
    rw [← List.map_take] at he
    obtain ⟨g', hg', rfl⟩ := List.mem_map.mp he
    exact Nat.le_trans (List.length_filter_le _ _) hcl
  have hnd : (((gs.map (sortG cs)).take j).map (·.1)).Nodup := by
    rw [← List.map_take, List.map_map]
    have h : (gs.map (·.1)).Nodup := hg.nd
    have h2 : ((gs.map (·.1)).take j).Nodup := (List.take_sublist j _).nodup h
    rw [← List.map_take] at h2
    exact h2
  have hal : ((gs.map (sortG cs)).take j).length ≤ 1000 := by
    rw [List.length_take, List.length_map]
    omega
  rw [es, eS]
  dsimp only
  clear es eS hz hd
  clear_value S
  generalize (gs.map (sortG cs)).take j = acc at hnew hap hlen hnd hal ⊢
  refine ⟨_, evg_tup2 3 4, .inl (ws_weak (ρ1 := [.dat (encL cs), .dat (.lst (gs.map groupD)), .cell 0, .dat (.int (j : Nat)), .dat (groupD (n, ms)), .dat (.str n), .dat (encL ms), .un, .un]) ?_ ?_)⟩
  rotate_left
  · repeat first | exact .nil | refine .cons (.inl rfl) ?_ | refine .cons (.inr rfl) ?_
  refine ws_seq (ws_if (b := false) (ev_teq (evt_not (evt_val (ev_callF (ds := [encL cs, groupD (n, ms)]) (R_is_group.mk cs (n, ms) hok) (eva_cons (ev_var 0 rfl (by simp)) (eva_cons (ev_var 4 rfl (by simp)) eva_nil))))) rfl) (fun e => by cases e) (fun _ => ws_next)) ?_
  refine ws_seq (ρ1 := [.dat (encL cs), .dat (.lst (gs.map groupD)), .cell 0, .dat (.int (j : Nat)), .dat (groupD (n, ms)), .dat (.str n), .dat (encL ms), .un, .un]) (μ1 := [.dic (setsD acc)]) (ws_asg (ev_var 4 rfl (by simp)) (wg_tup rfl (wgs_cons (wg_name 5) (wgs_cons (wg_name 6) wgs_nil)))) ?_
  have hfind : acc.find? (fun x => decide (x.1 = n)) = none := by
    rw [List.find?_eq_none]
    intro x hx
    simp only [decide_eq_true_eq]
    exact fun q => hnew (List.mem_map.mpr ⟨x, hx, q⟩)
  refine ws_seq (ws_if (b := false) (ev_tmu (μ2 := [.dic (setsD acc)]) (ev_teq (evt_or (evt_test (ev_op opd_inS (ev_var 5 rfl (by simp)) (ev_var 0 rfl (by simp)))) fun h => (evt_val (ev_inDC (k := .inr n) (ev_var 5 rfl (by simp)) (ev_var 2 rfl (by simp)) rfl))) (by rw [look_sets, hfind, decide_eq_false hout]; rfl)) (by split <;> rfl)) (fun e => by cases e) (fun _ => ws_next)) ?_
  refine ws_seq (ws_keysC (es := setsD acc) rfl rfl ?keys) ?_
  case keys =>
    intro F' e he
    obtain ⟨⟨l, b⟩, hb, rfl⟩ := List.mem_map.mp he
    obtain ⟨i, hi⟩ := List.mem_iff_getElem?.mp hb
    have hlook := look_nodup hnd hi
    have hbl : b.length ≤ 1000 := hlen _ hb
    have hba : apart ms b := hap _ hb
    exact ⟨_, ev_callF (ds := [.str n, encL ms, .str l, encL b]) (R_check_apart.mk n l ms b hms hbl hba) (eva_cons (ev_var 5 rfl (by simp)) (eva_cons (ev_var 6 rfl (by simp)) (eva_cons (ev_var 7 rfl (by simp [keyD])) (eva_cons (ev_dget (k := .inr l) hlook (ev_var 2 rfl (by simp)) (ev_var 7 rfl (by simp [keyD]))) eva_nil))))⟩
  refine ws_eqm (ws_asg (ev_lcF (α := Str) (enc := .str) (xs := cs) (p := fun c => decide (c ∈ ms)) (f := fun x => D.str x) (evi_list (ev_var 0 rfl (by simp))) ?u1 ?u2 (fun F' z => evg_name 8) (fun F' z hx => (evt_test (ev_op opd_inS (ev_var 8 rfl (by simp)) (ev_var 6 rfl (by simp))))) (fun F' z hx hp => (ev_var 8 rfl (by simp)))) (wg_subD (k := .inr n) (es := setsD acc) (ev_var 2 rfl (by simp)) (ev_var 5 rfl (by simp)) rfl ?u3)) rfl
  case u1 =>
    intro i hi
    cases List.mem_singleton.mp hi
    rfl
  case u2 => omega
  case u3 =>
    unfold setsD
    rw [List.length_map]
    exact Nat.lt_of_le_of_lt hal hs1000
end
end Dl
end
section
set_option Elab.async false
set_option maxRecDepth 100000
set_option maxHeartbeats 4000000
set_option linter.all false
namespace Dl
open PySem L2
/-! ### the names that are drawn are names -/
def AD : List Nat := (alpha ++ digs).cps.toList
def AllIn (x : Str) : Prop := ∀ c ∈ x.cps.toList, c ∈ AD
theorem cps_app (x y : Str) : (x ++ y).cps.toList = x.cps.toList ++ y.cps.toList := by
  show (x.cps ++ y.cps).toList = _
  simp
theorem allIn_app {x y : Str} (hx : AllIn x) (hy : AllIn y) : AllIn (x ++ y) := fun c h => by
  rw [cps_app] at h
  rcases List.mem_append.mp h with h | h
  · exact hx c h
  · exact hy c h
theorem allIn_join : ∀ l : List Str, (∀ x ∈ l, AllIn x) → AllIn (Str.join "" l)
  | [], _ => fun c h => by cases h
  | [x], h => h x List.mem_cons_self
  | x :: y :: r, h => by
    show AllIn (x ++ ("" : Str) ++ Str.join "" (y :: r))
    exact allIn_app (allIn_app (h x List.mem_cons_self) (fun c hc => by cases hc)) (allIn_join (y :: r) fun z hz => h z (List.mem_cons_of_mem _ hz))
theorem join_eq (l : List Str) : Txt.join "" l = Str.join "" l := by
  show PySem.Builtin.Str.glued _ _ = _
  rw [StrLaws.glued_eq_join]
theorem suff_in : ∀ c ∈ suff.cps.toList, c ∈ AD := by decide +kernel
theorem alpha_in : ∀ c ∈ alpha.cps.toList, c ∈ AD := by decide +kernel
theorem suffixes_in : ∀ x ∈ suffixes, ∀ c ∈ x.cps.toList, c ∈ AD := by decide +kernel
theorem getD_mem {α : Type} {xs : List α} {i : Nat} {a : α} (h : i < xs.length) : xs.getD i a ∈ xs := by
  rw [List.getD_eq_getElem?_getD, List.getElem?_eq_getElem h]
  exact List.getElem_mem h
theorem label_first (q : Pot) : ∃ c r, (label q).cps.toList = c :: r ∧ c ∈ alpha.cps.toList ∧ AllIn (label q) := by
  have h26 : (q.next 3).draw 26 < alpha.cps.toList.length := Nat.lt_of_lt_of_le (Pot.draw_lt _ (by decide)) (by decide +kernel)
  have h1 := getD_mem (a := 0) h26
  refine ⟨alpha.cps.toList.getD ((q.next 3).draw 26) 0, (Txt.join "" ((List.range (q.draw 3)).map fun i => sign suff ((((q.next 3).next 26).nth 24 i).draw 24))).cps.toList, ?_, h1, ?_⟩
  · unfold label
    rw [cps_app]
    rfl
  · unfold label
    refine allIn_app (fun c hc => ?_) ?_
    · have : c = alpha.cps.toList.getD ((q.next 3).draw 26) 0 := by simpa [sign] using hc
      subst this
      exact alpha_in _ h1
    · rw [join_eq]
      refine allIn_join _ fun x hx c hc => ?_
      obtain ⟨i, _, rfl⟩ := List.mem_map.mp hx
      have h24 : (((q.next 3).next 26).nth 24 i).draw 24 < suff.cps.toList.length := Nat.lt_of_lt_of_le (Pot.draw_lt _ (by decide)) (by decide +kernel)
      have : c = suff.cps.toList.getD ((((q.next 3).next 26).nth 24 i).draw 24) 0 := by simpa [sign] using hc
      subst this
      exact suff_in _ (getD_mem h24)
theorem pick_name {q : Pot} {found taken : List Str} (h : found.length + taken.length < 91) : nameOk (pick (label q) found taken) = true := by
  obtain ⟨tl, e⟩ := pick_spec (l := label q) h
  have hm : pick (label q) found taken ∈ spare (label q) := by
    have : pick (label q) found taken ∈ (spare (label q)).filter (fun x => !decide (x ∈ found) && !decide (x ∈ taken)) := by rw [e]; exact List.mem_cons_self
    exact (List.mem_filter.mp this).1
  have hl := spare_len hm
  have hl3 := label_len q
  rw [spare_eq] at hm
  obtain ⟨y, hy, ey⟩ := List.mem_map.mp hm
  have ey : label q ++ y = pick (label q) found taken := ey
  obtain ⟨c, r, e1, hc, hall⟩ := label_first q
  have ec : (pick (label q) found taken).cps.toList = c :: (r ++ y.cps.toList) := by
    rw [← ey, cps_app, e1]
    rfl
  have hlen : 1 ≤ (pick (label q) found taken).length ∧ (pick (label q) found taken).length ≤ 8 := by
    refine ⟨?_, by omega⟩
    show 1 ≤ (pick (label q) found taken).cps.size
    rw [← Array.length_toList, ec, List.length_cons]
    omega
  have hin : AllIn (pick (label q) found taken) := by
    rw [← ey]
    exact allIn_app hall (suffixes_in y hy)
  unfold nameOk
  rw [decide_eq_true hlen, Bool.true_and, ec]
  rw [show (c :: (r ++ y.cps.toList)).getD 0 0 = c from rfl, decide_eq_true hc, Bool.true_and, List.all_eq_true]
  intro x hx
  rw [← ec] at hx
  exact decide_eq_true (hin x hx)
theorem namedS_spec (taken : List Str) (p : Pot) : ∀ n, n + taken.length ≤ 60 → (namedS taken p n).2.Nodup ∧ (∀ x ∈ (namedS taken p n).2, x ∉ taken ∧ nameOk x = true)
  | 0, _ => ⟨List.nodup_nil, fun x h => by cases h⟩
  | n + 1, h => by
    obtain ⟨h1, h2⟩ := namedS_spec taken p n (by omega)
    have hl := namedS_len taken p n
    have hb : (namedS taken p n).2.length + taken.length < 91 := by omega
    have hp := pick_new (l := label (namedS taken p n).1) hb
    have hn := pick_name (q := (namedS taken p n).1) hb
    show ((namedS taken p n).2 ++ [pick (label (namedS taken p n).1) (namedS taken p n).2 taken]).Nodup ∧ ∀ x ∈ (namedS taken p n).2 ++ [pick (label (namedS taken p n).1) (namedS taken p n).2 taken], _
    refine ⟨List.nodup_append.mpr ⟨h1, by simp, fun a ha b hb e => ?_⟩, fun x hx => ?_⟩
    · rw [List.mem_singleton] at hb
      subst hb
      subst e
      exact hp.1 ha
    · rcases List.mem_append.mp hx with hx | hx
      · exact h2 x hx
      · rw [List.mem_singleton] at hx
        subst hx
        exact ⟨hp.2, hn⟩
end Dl
end
section
set_option Elab.async false
set_option maxRecDepth 100000
set_option maxHeartbeats 4000000
set_option linter.all false
namespace Dl
open PySem L2
/-! ### the sets of the model lie apart or within one another -/
def Within (e e' : List Str) : Prop := (∀ x ∈ e, x ∈ e') ∧ ∃ y ∈ e', y ∉ e
def Away (e e' : List Str) : Prop := ∀ x ∈ e, x ∉ e'
structure Mdl.Lam (M : Mdl) : Prop extends M.Neat where
  one : 1 ≤ M.sgl.length
  nms : ∀ x ∈ M.sgl, nameOk x = true
  lbl : ∀ e ∈ M.sets, nameOk e.1 = true ∧ e.1 ∉ M.sgl
  two : ∀ e ∈ M.sets, 2 ≤ e.2.length
  bnd : ∀ e ∈ M.sets, e.2.Nodup
  ord : ∀ e ∈ M.sets, e.2 = M.sgl.filter fun x => decide (x ∈ e.2)
  lam : M.sets.Pairwise fun e e' => Within e.2 e'.2 ∨ Away e.2 e'.2
/-- what is taken of the blocks -/
theorem Tk.took (s : Tk) : ∀ n, n ≤ s.blocks.length → ∃ tk : List (List Str), tk.length = n ∧ (s.many n).both = s.both ++ tk.flatten ∧ (tk ++ (s.many n).blocks).Perm s.blocks
  | 0, _ => ⟨[], rfl, by simp [Tk.many], List.Perm.refl _⟩
  | n + 1, h => by
    obtain ⟨tk, h1, h2, h3⟩ := Tk.took s n (by omega)
    have hl := Tk.len s n (by omega)
    show ∃ tk' : List (List Str), tk'.length = n + 1 ∧ (s.many n).next.both = s.both ++ tk'.flatten ∧ (tk' ++ (s.many n).next.blocks).Perm s.blocks
    generalize s.many n = t at hl h2 h3 ⊢
    have hj := Pot.draw_lt t.p (m := t.blocks.length) (by omega)
    have e : t.blocks[t.p.draw t.blocks.length]? = some (t.blocks.getD (t.p.draw t.blocks.length) []) := by
      rw [List.getD_eq_getElem?_getD, List.getElem?_eq_getElem hj]
      rfl
    refine ⟨tk ++ [t.blocks.getD (t.p.draw t.blocks.length) []], by rw [List.length_append, h1]; rfl, ?_, ?_⟩
    · show t.both ++ _ = _
      rw [h2, List.flatten_append, List.append_assoc]
      simp
    · show ((tk ++ [t.blocks.getD (t.p.draw t.blocks.length) []]) ++ t.blocks.eraseIdx (t.p.draw t.blocks.length)).Perm s.blocks
      rw [List.append_assoc]
      exact ((erase_perm e).append_left tk).trans h3
structure Inv1 (sgl : List Str) (s : Wd) : Prop where
  perm : s.blocks.flatten.Perm sgl
  ne : ∀ B ∈ s.blocks, B ≠ []
  small : s.sets.length ≤ 8
  keys : (s.sets.map (·.1)).Nodup
  lbl : ∀ e ∈ s.sets, nameOk e.1 = true ∧ e.1 ∉ sgl
  inn : ∀ e ∈ s.sets, ∀ x ∈ e.2, x ∈ sgl
  two : ∀ e ∈ s.sets, 2 ≤ e.2.length
  bnd : ∀ e ∈ s.sets, e.2.Nodup
  ord : ∀ e ∈ s.sets, e.2 = sgl.filter fun x => decide (x ∈ e.2)
  low : ∀ e ∈ s.sets, ∃ B ∈ s.blocks, ∀ x ∈ e.2, x ∈ B
  lam : s.sets.Pairwise fun e e' => Within e.2 e'.2 ∨ Away e.2 e'.2
theorem filter_ord {sgl both : List Str} : (sgl.filter fun x => decide (x ∈ both)) = sgl.filter fun x => decide (x ∈ (sgl.filter fun y => decide (y ∈ both))) := by
  refine List.filter_congr fun x hx => ?_
  by_cases h : x ∈ both
  · have h2 : x ∈ (sgl.filter fun y => decide (y ∈ both)) := List.mem_filter.mpr ⟨hx, decide_eq_true h⟩
    exact (decide_eq_true h).trans (decide_eq_true h2).symm
  · have h2 : ¬ x ∈ (sgl.filter fun y => decide (y ∈ both)) := fun q => h (of_decide_eq_true (List.mem_filter.mp q).2)
    exact (decide_eq_false h).trans (decide_eq_false h2).symm
theorem Inv1.next {sgl : List Str} {s : Wd} (I : Inv1 sgl s) (nd : sgl.Nodup) (h5 : sgl.length ≤ 5) (hs : s.sets.length ≤ 7) : Inv1 sgl (s.next sgl) := by
  unfold Wd.next
  split
  case isFalse => exact I
  case isTrue h1 =>
    have hn := Nat.min_le_right (2 + s.p.draw 2) s.blocks.length
    have hn2 : 2 ≤ min (2 + s.p.draw 2) s.blocks.length := by omega
    obtain ⟨tk, e1, e2, e3⟩ := Tk.took ⟨s.p.next 2, s.blocks, []⟩ _ hn
    have e2 : s.tk.both = tk.flatten := by
      show (Tk.many _ _).both = _
      rw [e2]
      rfl
    have e3 : (tk ++ s.tk.blocks).Perm s.blocks := e3
    have hfl : (tk.flatten ++ s.tk.blocks.flatten).Perm sgl := by
      rw [← List.flatten_append]
      exact e3.flatten.trans I.perm
    have hnd : (tk.flatten ++ s.tk.blocks.flatten).Nodup := (hfl.nodup_iff).mpr nd
    have hdis : ∀ x ∈ tk.flatten, x ∉ s.tk.blocks.flatten := fun x hx hy => (List.nodup_append.mp hnd).2.2 x hx x hy rfl
    have hin : ∀ x ∈ tk.flatten, x ∈ sgl := fun x hx => hfl.mem_iff.mp (List.mem_append_left _ hx)
    have htk : ∀ B ∈ tk, B ≠ [] := fun B hB => I.ne B (e3.mem_iff.mp (List.mem_append_left _ hB))
    have hbk : ∀ B ∈ s.tk.blocks, B ≠ [] := fun B hB => I.ne B (e3.mem_iff.mp (List.mem_append_right _ hB))
    have hmb : ∀ x, x ∈ (sgl.filter fun x => decide (x ∈ s.tk.both)) ↔ x ∈ tk.flatten := fun x => by
      rw [List.mem_filter, e2]
      exact ⟨fun h => of_decide_eq_true h.2, fun h => ⟨hin x h, decide_eq_true h⟩⟩
    have hp := pick_new (l := label s.tk.p) (found := []) (taken := sgl ++ s.sets.map (·.1)) (by rw [List.length_append, List.length_map]; simp only [List.length_nil]; omega)
    have hname : nameOk (s.label sgl) = true := pick_name (q := s.tk.p) (found := []) (taken := sgl ++ s.sets.map (·.1)) (by rw [List.length_append, List.length_map]; simp only [List.length_nil]; omega)
    have hl1 : s.label sgl ∉ sgl := fun q => hp.2 (List.mem_append_left _ q)
    have hl2 : s.label sgl ∉ s.sets.map (·.1) := fun q => hp.2 (List.mem_append_right _ q)
    have tnd : tk.flatten.Nodup := (List.nodup_append.mp hnd).1
    -- another element outside a taken block
    have other : ∀ B ∈ tk, ∃ y ∈ tk.flatten, y ∉ B := by
      intro B hB
      obtain ⟨i, hi⟩ := List.mem_iff_getElem?.mp hB
      have hpe := erase_perm hi
      have hlen := hpe.length_eq
      rw [List.length_cons] at hlen
      cases hr : tk.eraseIdx i with
      | nil => rw [hr] at hlen; simp at hlen; omega
      | cons C r =>
        have hC : C ∈ tk := hpe.mem_iff.mp (List.mem_cons_of_mem _ (by rw [hr]; exact List.mem_cons_self))
        obtain ⟨y, hy⟩ := List.exists_mem_of_ne_nil C (htk C hC)
        refine ⟨y, List.mem_flatten.mpr ⟨C, hC, hy⟩, fun q => ?_⟩
        have hq : (B :: C :: r).flatten.Nodup := by
          rw [← hr]
          exact (hpe.flatten.nodup_iff).mpr tnd
        rw [List.flatten_cons, List.flatten_cons] at hq
        exact (List.nodup_append.mp hq).2.2 y q y (List.mem_append_left _ hy) rfl
    have hnew2 : 2 ≤ (sgl.filter fun x => decide (x ∈ s.tk.both)).length := by
      cases ht : tk with
      | nil => rw [ht] at e1; simp at e1; omega
      | cons B r =>
        have hB : B ∈ tk := by rw [ht]; exact List.mem_cons_self
        obtain ⟨y, hy, hyB⟩ := other B hB
        obtain ⟨x, hx⟩ := List.exists_mem_of_ne_nil B (htk B hB)
        have hxf : x ∈ tk.flatten := List.mem_flatten.mpr ⟨B, hB, hx⟩
        have : [x, y].length ≤ (sgl.filter fun x => decide (x ∈ s.tk.both)).length := nodup_le (by
          refine List.nodup_cons.mpr ⟨fun q => ?_, by simp⟩
          rw [List.mem_singleton] at q
          subst q
          exact hyB hx) fun z hz => by
            rcases List.mem_cons.mp hz with rfl | hz
            · exact (hmb _).mpr hxf
            · rw [List.mem_singleton] at hz
              subst hz
              exact (hmb _).mpr hy
        exact this
    refine { perm := ?_, ne := ?_, small := ?_, keys := ?_, lbl := ?_, inn := ?_, two := ?_, bnd := ?_, ord := ?_, low := ?_, lam := ?_ }
    · show (s.tk.blocks ++ [s.tk.both]).flatten.Perm sgl
      rw [List.flatten_append, e2]
      simp only [List.flatten_cons, List.flatten_nil, List.append_nil]
      exact List.perm_append_comm.trans hfl
    · intro B hB
      rcases List.mem_append.mp hB with hB | hB
      · exact hbk B hB
      · rw [List.mem_singleton] at hB
        subst hB
        rw [e2]
        intro q
        cases ht : tk with
        | nil => rw [ht] at e1; simp at e1; omega
        | cons C r =>
          have hC : C ∈ tk := by rw [ht]; exact List.mem_cons_self
          obtain ⟨y, hy⟩ := List.exists_mem_of_ne_nil C (htk C hC)
          have : y ∈ tk.flatten := List.mem_flatten.mpr ⟨C, hC, hy⟩
          rw [q] at this
          cases this
    · show (s.sets ++ [_]).length ≤ 8
      rw [List.length_append, List.length_singleton]
      omega
    · show ((s.sets ++ [(s.label sgl, sgl.filter fun x => decide (x ∈ s.tk.both))]).map (·.1)).Nodup
      rw [List.map_append]
      refine List.nodup_append.mpr ⟨I.keys, by simp, fun a ha b hb e => ?_⟩
      have : b = s.label sgl := by simpa using hb
      subst this
      subst e
      exact hl2 ha
    · intro e he
      rcases List.mem_append.mp he with he | he
      · exact I.lbl e he
      · rw [List.mem_singleton] at he
        subst he
        exact ⟨hname, hl1⟩
    · intro e he
      rcases List.mem_append.mp he with he | he
      · exact I.inn e he
      · rw [List.mem_singleton] at he
        subst he
        exact fun x hx => (List.mem_filter.mp hx).1
    · intro e he
      rcases List.mem_append.mp he with he | he
      · exact I.two e he
      · rw [List.mem_singleton] at he
        subst he
        exact hnew2
    · intro e he
      rcases List.mem_append.mp he with he | he
      · exact I.bnd e he
      · rw [List.mem_singleton] at he
        subst he
        exact List.filter_sublist.nodup nd
    · intro e he
      rcases List.mem_append.mp he with he | he
      · exact I.ord e he
      · rw [List.mem_singleton] at he
        subst he
        exact filter_ord
    · intro e he
      rcases List.mem_append.mp he with he | he
      · obtain ⟨B, hB, hin2⟩ := I.low e he
        rcases List.mem_append.mp (e3.mem_iff.mpr hB) with hB | hB
        · refine ⟨s.tk.both, List.mem_append_right _ List.mem_cons_self, fun x hx => ?_⟩
          rw [e2]
          exact List.mem_flatten.mpr ⟨B, hB, hin2 x hx⟩
        · exact ⟨B, List.mem_append_left _ hB, hin2⟩
      · rw [List.mem_singleton] at he
        subst he
        exact ⟨s.tk.both, List.mem_append_right _ List.mem_cons_self, fun x hx => of_decide_eq_true (List.mem_filter.mp hx).2⟩
    · refine List.pairwise_append.mpr ⟨I.lam, List.pairwise_singleton _ _, fun e he e' he' => ?_⟩
      rw [List.mem_singleton] at he'
      subst he'
      obtain ⟨B, hB, hin2⟩ := I.low e he
      rcases List.mem_append.mp (e3.mem_iff.mpr hB) with hB | hB
      · left
        refine ⟨fun x hx => (hmb x).mpr (List.mem_flatten.mpr ⟨B, hB, hin2 x hx⟩), ?_⟩
        obtain ⟨y, hy, hyB⟩ := other B hB
        exact ⟨y, (hmb y).mpr hy, fun q => hyB (hin2 y q)⟩
      · right
        intro x hx q
        exact hdis x ((hmb x).mp q) (List.mem_flatten.mpr ⟨B, hB, hin2 x hx⟩)
end Dl
end
section
set_option Elab.async false
set_option maxRecDepth 100000
set_option maxHeartbeats 4000000
set_option linter.all false
namespace Dl
open PySem L2
theorem Inv1.many {sgl : List Str} {s : Wd} (I : Inv1 sgl s) (nd : sgl.Nodup) (h5 : sgl.length ≤ 5) (h0 : s.sets = []) : ∀ n, n ≤ 7 → Inv1 sgl (s.many sgl n)
  | 0, _ => I
  | n + 1, h => Inv1.next (Inv1.many I nd h5 h0 n (by omega)) nd h5 (Nat.le_trans (Wd.sets_len sgl s h0 n) (by omega))
theorem singles_flat (xs : List Str) : (xs.map fun s => [s]).flatten = xs := by
  induction xs with
  | nil => rfl
  | cons x xs ih => rw [List.map_cons, List.flatten_cons, ih]; rfl
theorem wide_lam (p : Pot) : (wideM p).Lam := by
  have h5 := p.draw_lt (m := 5) (by decide)
  have hl : (wideSgl p).2.length = 1 + p.draw 5 := namedS_len [] _ _
  obtain ⟨nd, hn⟩ := namedS_spec [] (p.next 5) (1 + p.draw 5) (by simp; omega)
  have nd : (wideSgl p).2.Nodup := nd
  have hn : ∀ x ∈ (wideSgl p).2, x ∉ ([] : List Str) ∧ nameOk x = true := hn
  have hd := (wideSgl p).1.draw_lt (m := 5) (by decide)
  have I0 : Inv1 (wideSgl p).2 ⟨(wideSgl p).1.next 5, (wideSgl p).2.map fun s => [s], []⟩ :=
    { perm := by rw [singles_flat], ne := fun B hB => (by obtain ⟨x, _, rfl⟩ := List.mem_map.mp hB; simp), small := by simp, keys := by simp, lbl := fun e h => (by cases h), inn := fun e h => (by cases h), two := fun e h => (by cases h), bnd := fun e h => (by cases h), ord := fun e h => (by cases h), low := fun e h => (by cases h), lam := List.Pairwise.nil }
  have I := Inv1.many I0 nd (by omega) rfl ((wideSgl p).1.draw 5) (by omega)
  have hsl := Wd.sets_len (wideSgl p).2 ⟨(wideSgl p).1.next 5, (wideSgl p).2.map fun s => [s], []⟩ rfl ((wideSgl p).1.draw 5)
  exact { small := ⟨by show (wideSgl p).2.length ≤ 5; omega, Nat.le_trans hsl (by omega), fun e he => Nat.le_trans (nodup_le (I.bnd e he) (I.inn e he)) (by omega)⟩, nd := nd, keys := I.keys, inn := I.inn, one := by show 1 ≤ (wideSgl p).2.length; omega, nms := fun x hx => (hn x hx).2, lbl := I.lbl, two := I.two, bnd := I.bnd, ord := I.ord, lam := I.lam }
/-- a group against an earlier one -/
theorem apart_of {ms os : List Str} (h2 : 2 ≤ ms.length) (nm : ms.Nodup) (no : os.Nodup) (h : Within os ms ∨ Away os ms) : apart ms os := by
  unfold apart
  rcases h with ⟨h, y, hy, hyo⟩ | h
  · have e1 : (ms.filter fun c => decide (c ∈ os)).length ≤ os.length := nodup_le (List.filter_sublist.nodup nm) fun x hx => of_decide_eq_true (List.mem_filter.mp hx).2
    have e2 : os.length ≤ (ms.filter fun c => decide (c ∈ os)).length := nodup_le no fun x hx => List.mem_filter.mpr ⟨h x hx, decide_eq_true hx⟩
    have e3 : (y :: os).length ≤ ms.length := nodup_le (List.nodup_cons.mpr ⟨hyo, no⟩) fun x hx => by
      rcases List.mem_cons.mp hx with rfl | hx
      · exact hy
      · exact h x hx
    rw [List.length_cons] at e3
    exact ⟨fun q => by omega, fun q => by omega⟩
  · have e1 : (ms.filter fun c => decide (c ∈ os)) = [] := List.filter_eq_nil_iff.mpr fun x hx q => h x (of_decide_eq_true q) hx
    rw [e1]
    exact ⟨fun q => by have := q.1; simp only [List.length_nil] at this; omega, fun q => by have := q.1; simp only [List.length_nil] at this; omega⟩
theorem book_ok {M : Mdl} (h : M.Lam) : groupsOk M.sgl M.sets where
  cl := by have := h.small.sgl; omega
  gl := by have := h.small.sets; omega
  each := fun g hg => ⟨(h.lbl g hg).1, h.two g hg, by have := h.small.each g hg; omega, fun m hm => ⟨h.nms m (h.inn g hg m hm), h.inn g hg m hm⟩, h.bnd g hg⟩
  nd := h.keys
  out := fun g hg => (h.lbl g hg).2
  ap := fun j g hg g' hg' => by
    have hm := List.mem_of_getElem? hg
    have hm' : g' ∈ M.sets := List.mem_of_mem_take hg'
    have hj : j < M.sets.length := (List.getElem?_eq_some_iff.mp hg).1
    have hp : Within g'.2 g.2 ∨ Away g'.2 g.2 := by
      obtain ⟨i, hi, ei⟩ := List.mem_iff_getElem.mp hg'
      rw [List.length_take] at hi
      rw [List.getElem_take] at ei
      have := List.pairwise_iff_getElem.mp h.lam i j (by omega) hj (by omega)
      rw [ei, (List.getElem?_eq_some_iff.mp hg).2] at this
      exact this
    rw [← h.ord g' hm']
    exact apart_of (h.two g hm) (h.bnd g hm) (h.bnd g' hm') hp
theorem sort_self {M : Mdl} (h : M.Lam) : M.sets.map (sortG M.sgl) = M.sets := by
  have : ∀ e ∈ M.sets, sortG M.sgl e = e := fun e he => by
    unfold sortG
    rw [← h.ord e he]
  rw [List.map_congr_left this]
  simp
end Dl
end
section
set_option Elab.async false
set_option maxRecDepth 100000
set_option maxHeartbeats 4000000
set_option linter.all false
namespace Dl
open PySem L2
theorem idx_at {sgl : List Str} {x : Str} (h : x ∈ sgl) : sgl[sgl.idxOf x]? = some x := by
  induction sgl with
  | nil => cases h
  | cons y ys ih =>
    by_cases e : y = x
    · subst e
      simp
    · have hx : x ∈ ys := by
        rcases List.mem_cons.mp h with rfl | h
        · exact absurd rfl e
        · exact h
      rw [List.idxOf_cons, show (y == x) = false by simpa using e]
      simpa using ih hx
theorem rot_at {sgl : List Str} {x : Str} (h : x ∈ sgl) : sgl[(sgl.idxOf x + 1) % sgl.length]? = some (rot sgl x) := by
  have hp : 0 < sgl.length := List.length_pos_of_mem h
  have hl : (sgl.idxOf x + 1) % sgl.length < sgl.length := Nat.mod_lt _ hp
  unfold rot rotI
  rw [List.getD_eq_getElem?_getD, List.getElem?_eq_getElem hl]
  rfl
theorem rot_mem {sgl : List Str} {x : Str} (h : x ∈ sgl) : rot sgl x ∈ sgl := List.mem_of_getElem? (rot_at h)
theorem mod_inj {n i j : Nat} (hi : i < n) (hj : j < n) (h : (i + 1) % n = (j + 1) % n) : i = j := by
  by_cases h1 : i + 1 = n
  · by_cases h2 : j + 1 = n
    · omega
    · rw [h1, Nat.mod_self, Nat.mod_eq_of_lt (by omega)] at h
      omega
  · by_cases h2 : j + 1 = n
    · rw [h2, Nat.mod_self, Nat.mod_eq_of_lt (by omega)] at h
      omega
    · rw [Nat.mod_eq_of_lt (by omega), Nat.mod_eq_of_lt (by omega)] at h
      omega
theorem rot_inj {sgl : List Str} (nd : sgl.Nodup) {x y : Str} (hx : x ∈ sgl) (hy : y ∈ sgl) (h : rot sgl x = rot sgl y) : x = y := by
  have ax := rot_at hx
  have ay := rot_at hy
  rw [h] at ax
  have hp : 0 < sgl.length := List.length_pos_of_mem hx
  have e := (List.getElem?_inj (Nat.mod_lt _ hp) nd).mp (ax.trans ay.symm)
  have lx := (List.getElem?_eq_some_iff.mp (idx_at hx)).1
  have ly := (List.getElem?_eq_some_iff.mp (idx_at hy)).1
  have ei := mod_inj lx ly e
  have q := idx_at hx
  rw [ei, idx_at hy] at q
  exact (Option.some.inj q).symm
theorem turn_mem {sgl b : List Str} (hb : ∀ x ∈ b, x ∈ sgl) {l z : Str} : z ∈ (turn1 sgl (l, b)).2 ↔ ∃ y ∈ b, rot sgl y = z := by
  show z ∈ sgl.filter (fun s => decide (s ∈ b.map (rot sgl))) ↔ _
  rw [List.mem_filter]
  constructor
  · rintro ⟨_, h⟩
    obtain ⟨y, hy, e⟩ := List.mem_map.mp (of_decide_eq_true h)
    exact ⟨y, hy, e⟩
  · rintro ⟨y, hy, rfl⟩
    exact ⟨rot_mem (hb y hy), decide_eq_true (List.mem_map.mpr ⟨y, hy, rfl⟩)⟩
theorem nodup_map_on {α β : Type} {f : α → β} : ∀ {xs : List α}, (∀ a ∈ xs, ∀ b ∈ xs, f a = f b → a = b) → xs.Nodup → (xs.map f).Nodup
  | [], _, _ => List.nodup_nil
  | x :: xs, hf, h => by
    have h' := List.nodup_cons.mp h
    rw [List.map_cons]
    refine List.nodup_cons.mpr ⟨fun hm => ?_, nodup_map_on (fun a ha b hb => hf a (List.mem_cons_of_mem _ ha) b (List.mem_cons_of_mem _ hb)) h'.2⟩
    obtain ⟨y, hy, e⟩ := List.mem_map.mp hm
    have := hf y (List.mem_cons_of_mem _ hy) x List.mem_cons_self e
    subst this
    exact h'.1 hy
theorem turned_lam {M : Mdl} (h : M.Lam) : M.turned.Lam := by
  have inn' : ∀ e ∈ M.turned.sets, ∃ e0 ∈ M.sets, e = turn1 M.sgl e0 := fun e he => by
    obtain ⟨e0, h0, rfl⟩ := List.mem_map.mp he
    exact ⟨e0, h0, rfl⟩
  have key : M.turned.sets.map (·.1) = M.sets.map (·.1) := by
    show (M.sets.map (turn1 M.sgl)).map (·.1) = _
    rw [List.map_map]
    rfl
  have hsub : ∀ e ∈ M.turned.sets, ∀ x ∈ e.2, x ∈ M.sgl := fun e he x hx => by
    obtain ⟨e0, h0, rfl⟩ := inn' e he
    exact (List.mem_filter.mp hx).1
  have hnd : ∀ e ∈ M.turned.sets, e.2.Nodup := fun e he => by
    obtain ⟨e0, h0, rfl⟩ := inn' e he
    exact List.filter_sublist.nodup h.nd
  refine { small := ⟨h.small.sgl, ?_, fun e he => ?_⟩, nd := h.nd, keys := by rw [key]; exact h.keys, inn := hsub, one := h.one, nms := h.nms, lbl := fun e he => ?_, two := fun e he => ?_, bnd := hnd, ord := fun e he => ?_, lam := ?_ }
  · show (M.sets.map (turn1 M.sgl)).length ≤ 4
    rw [List.length_map]
    exact h.small.sets
  · exact Nat.le_trans (nodup_le (hnd e he) (hsub e he)) h.small.sgl
  · obtain ⟨e0, h0, rfl⟩ := inn' e he
    exact h.lbl e0 h0
  · obtain ⟨⟨l, b⟩, h0, rfl⟩ := inn' e he
    have hb := h.inn _ h0
    have h1 : (b.map (rot M.sgl)).length ≤ (turn1 M.sgl (l, b)).2.length := nodup_le (nodup_map_on (fun a ha c hc q => rot_inj h.nd (hb a ha) (hb c hc) q) (h.bnd _ h0)) fun z hz => by
      obtain ⟨y, hy, e⟩ := List.mem_map.mp hz
      exact (turn_mem hb).mpr ⟨y, hy, e⟩
    rw [List.length_map] at h1
    exact Nat.le_trans (h.two _ h0) h1
  · obtain ⟨⟨l, b⟩, h0, rfl⟩ := inn' e he
    exact filter_ord
  · show (M.sets.map (turn1 M.sgl)).Pairwise _
    rw [List.pairwise_map]
    refine List.Pairwise.imp_of_mem (fun {e e'} he he' r => ?_) h.lam
    obtain ⟨l, b⟩ := e
    obtain ⟨l', b'⟩ := e'
    have hb := h.inn _ he
    have hb' := h.inn _ he'
    rcases r with ⟨r1, y, hy, hyb⟩ | r
    · left
      refine ⟨fun x hx => ?_, rot M.sgl y, (turn_mem hb').mpr ⟨y, hy, rfl⟩, fun q => ?_⟩
      · obtain ⟨z, hz, rfl⟩ := (turn_mem hb).mp hx
        exact (turn_mem hb').mpr ⟨z, r1 z hz, rfl⟩
      · obtain ⟨z, hz, e⟩ := (turn_mem hb).mp q
        have := rot_inj h.nd (hb z hz) (hb' y hy) e
        subst this
        exact hyb hz
    · right
      intro x hx q
      obtain ⟨z, hz, rfl⟩ := (turn_mem hb).mp hx
      obtain ⟨z', hz', e⟩ := (turn_mem hb').mp q
      have := rot_inj h.nd (hb' z' hz') (hb z hz) e
      subst this
      exact r _ hz hz'
end Dl
end
section
set_option Elab.async false
set_option maxRecDepth 100000
set_option maxHeartbeats 4000000
set_option linter.all false
namespace Dl
open PySem L2
/-! ### tables of names and counters -/
def inCls (i j : Nat) : Stmt := match top i with
  | .ClassDef _ _ _ body _ _ _ _ _ _ _ => body.getD j (.Pass ⟨0, 0, 0, 0⟩)
  | _ => .Pass ⟨0, 0, 0, 0⟩
def lookG (ss : List (Str × List Str)) (n : Str) : List Str := ((ss.find? fun e => decide (e.1 = n)).map (·.2)).getD []
theorem lookG_of {ms : List (Str × List Str)} {n : Str} {b : List Str} (h : lookD (setsD ms) (.inr n) = some (encL b)) : lookG ms n = b := by
  rw [look_sets] at h
  unfold lookG
  cases hf : ms.find? fun e => decide (e.1 = n) with
  | none => rw [hf] at h; cases h
  | some x =>
    rw [hf] at h
    have h2 : encL x.2 = encL b := Option.some.inj h
    have h3 : x.2.map D.str = b.map D.str := D.lst.inj h2
    have inj : ∀ {xs ys : List Str}, xs.map D.str = ys.map D.str → xs = ys := fun {xs} => by
      induction xs with
      | nil => intro ys q; cases ys with
        | nil => rfl
        | cons y ys => cases q
      | cons x xs ih => intro ys q; cases ys with
        | nil => cases q
        | cons y ys =>
          rw [List.map_cons, List.map_cons] at q
          obtain ⟨q1, q2⟩ := List.cons.inj q
          cases q1
          rw [ih q2]
    exact inj h3
theorem look_of_mem {ms : List (Str × List Str)} {n : Str} (h : n ∈ ms.map (·.1)) : lookD (setsD ms) (.inr n) = some (encL (lookG ms n)) := by
  rw [look_sets]
  unfold lookG
  obtain ⟨e, he, q⟩ := List.mem_map.mp h
  cases hf : ms.find? fun e => decide (e.1 = n) with
  | none => exact absurd (List.find?_eq_none.mp hf e he) (by simpa using q)
  | some x => rfl
theorem setsD_keysR (ms : List (Str × List Str)) : (setsD ms).map (·.1) = ms.map fun e => (.inr e.1 : Key) := by
  unfold setsD
  rw [List.map_map]
  rfl
theorem lookG_len {ms : List (Str × List Str)} {k : Nat} (he : ∀ e ∈ ms, e.2.length ≤ k) (n : Str) : (lookG ms n).length ≤ k := by
  unfold lookG
  cases h : ms.find? fun e => decide (e.1 = n) with
  | none => exact Nat.zero_le _
  | some e => exact he e (List.mem_of_find?_eq_some h)
theorem lookG_mem {ms : List (Str × List Str)} {n : Str} (h : n ∈ ms.map (·.1)) : (n, lookG ms n) ∈ ms := by
  obtain ⟨e, he, q⟩ := List.mem_map.mp h
  unfold lookG
  cases hf : ms.find? fun e => decide (e.1 = n) with
  | none => exact absurd (List.find?_eq_none.mp hf e he) (by simpa using q)
  | some x =>
    have h1 := List.mem_of_find?_eq_some hf
    have h2 : x.1 = n := by simpa using List.find?_some hf
    subst h2
    exact h1
end Dl
end
section
set_option Elab.async false
set_option maxRecDepth 100000
set_option linter.all false
namespace Dl
open PySem L2
/-! ### an instance that the def makes or changes: a cell with fields -/
def putS (f : Str) (r : Slot) : List (Str × Slot) → List (Str × Slot)
  | [] => [(f, r)]
  | (g, x) :: q => if g = f then (g, r) :: q else (g, x) :: putS f r q
section
variable {h as : List Addr} {H : Hp}
theorem flds_put {f : Str} {r : Slot} {v : V} (x : SlotOk h as H r (some v)) : ∀ {fs : List (Str × Slot)} {fvs : List (Str × V)}, Paired (FldOk h as H) fs fvs → Paired (FldOk h as H) (putS f r fs) (putF f v fvs)
  | _, _, .nil => .cons ⟨rfl, x⟩ .nil
  | _, _, @Paired.cons _ _ _ (g, s) (g', w) fs fvs y t => by
    have e : g = g' := y.1
    subst e
    show Paired (FldOk h as H) (if g = f then (g, r) :: fs else (g, s) :: putS f r fs) (if g = f then (g, v) :: fvs else (g, w) :: putF f v fvs)
    split
    · exact .cons ⟨rfl, x⟩ t
    · exact .cons y (flds_put x t)
theorem flds_look {f : Str} {s : Slot} : ∀ {fs : List (Str × Slot)} {fvs : List (Str × V)}, Paired (FldOk h as H) fs fvs → fs.lookup f = some s → ∃ v, fvs.lookup f = some v ∧ SlotOk h as H s (some v)
  | _, _, .nil, e => by cases e
  | _, _, @Paired.cons _ _ _ (g, s') (g', w) fs fvs y t, e => by
    have eg : g = g' := y.1
    subst eg
    rw [List.lookup_cons] at e ⊢
    cases hb : f == g with
    | true =>
      rw [hb] at e
      cases e
      exact ⟨w, rfl, y.2⟩
    | false =>
      rw [hb] at e
      exact flds_look t e
/-- another word for what stands in a field -/
theorem flds_word {f : Str} {s r : Slot} (hr : ∀ v, SlotOk h as H s (some v) → SlotOk h as H r (some v)) : ∀ {fs : List (Str × Slot)} {fvs : List (Str × V)}, Paired (FldOk h as H) fs fvs → fs.lookup f = some s → Paired (FldOk h as H) (putS f r fs) fvs
  | _, _, .nil, e => by cases e
  | _, _, @Paired.cons _ _ _ (g, s') (g', w) fs fvs y t, e => by
    show Paired (FldOk h as H) (if g = f then (g, r) :: fs else (g, s') :: putS f r fs) _
    by_cases hg : g = f
    · subst hg
      rw [List.lookup_cons, beq_self_eq_true] at e
      cases e
      rw [if_pos rfl]
      exact .cons ⟨y.1, hr _ y.2⟩ t
    · rw [if_neg hg]
      rw [List.lookup_cons, show (f == g) = false by simpa using fun q => hg q.symm] at e
      exact .cons y (flds_word hr t e)
end
section
variable {F : Fm} {ρ : List Slot} {μ μ1 μ2 : List Cell} {r s : Slot} {ta tv : TE} {o : Out} {ts : TS}
theorem ev_fldC {K : PySem.W.Frag} {C dx : Addr} {f : Str} {k : Nat} {fs : List (Str × Slot)} (c : Cls K C) (n : NoAttr K C f) (ha : Ev F ta ρ μ (.cell k) μ1) (hk : μ1[k]? = some (.ins C dx fs)) (hf : fs.lookup f = some s) : Ev F (tFld K ta f) ρ μ s μ1 := fun as σ H R Q kk =>
  ha as σ H R _ fun v1 as1 H1 R1 p1 a1 x1 => by
    obtain ⟨p, hp, e⟩ := x1
    cases e
    obtain ⟨q, hq, fvs, el, xl⟩ := R1.cell hk
    rw [hp] at hq
    cases hq
    obtain ⟨v, hv, sv⟩ := flds_look xl hf
    exact ⟨p, C, dx, fvs, v, rfl, el, c, n, hv, kk v as1 H1 R1 p1 a1 sv⟩
theorem pd_len' {α β : Type} {F : α → β → Prop} {l : List α} {m : List β} (p : Paired F l m) : m.length = l.length := (pd_len p).symm
theorem ws_fldC {K : PySem.W.Frag} {C dx : Addr} {f : Str} {k : Nat} {fs : List (Str × Slot)} (c : Cls K C) (n : NoAttr K C f) (hv : Ev F tv ρ μ r μ1) (ha : Ev F ta ρ μ1 (.cell k) μ2) (hk : μ2[k]? = some (.ins C dx fs)) (hl : fs.length < 1000) :
    Ws F (sFld K ta tv f) ρ μ (.nx ρ (μ2.set k (.ins C dx (putS f r fs)))) := fun as σ H R E kk =>
  hv as σ H R _ fun v1 as1 H1 R1 p1 a1 x1 => ha as1 σ H1 R1 _ fun v2 as2 H2 R2 p2 a2 x2 => by
    obtain ⟨p, hp, e⟩ := x2
    cases e
    obtain ⟨q, hq, fvs, el, xl⟩ := R2.cell hk
    rw [hp] at hq
    cases hq
    refine ⟨p, C, dx, fvs, rfl, el, c, n, by rw [pd_len' xl]; exact hl, ?_⟩
    have keep : ∀ b u, b ≠ p → H2 b = some u → (upd H2 p (.ins C dx (putF f v1 fvs))) b = some u := fun b u n e => by rw [upd_ne n]; exact e
    have hin : p ∈ hid μ2 as2 := (hid_kill k hk rfl hp R2.nd p).mpr (.inl rfl)
    have g : Same (Hide (hid μ2 as2 ++ F.z) H2) (Hide (hid μ2 as2 ++ F.z) (upd H2 p (.ins C dx (putF f v1 fvs)))) := fun b u e => by
      obtain ⟨n, e⟩ := hide_some e
      rw [hide_out n]
      exact keep b u (fun q => n (List.mem_append_left _ (q ▸ hin))) e
    have xr : SlotOk (hid μ2 as2 ++ F.z) as2 H2 r (some v1) := SlotOk.ext p2 (SlotOk.adv a2 x1)
    have new : CellOk (hid μ2 as2 ++ F.z) as2 (upd H2 p (.ins C dx (putF f v1 fvs))) (.ins C dx (putS f r fs)) p :=
      ⟨putF f v1 fvs, upd_same, pd_imp (flds_put xr xl) fun a b y => ⟨y.1, SlotOk.mono (.of g) y.2⟩⟩
    obtain ⟨R3, a3⟩ := R2.poke (c' := .ins C dx (putS f r fs)) hk rfl hp keep rfl new
    exact kk as2 _ _ ⟨R3, p1.trans p2, (a1.trans a2).trans a3⟩
/-- the def's own dict becomes what the field holds, as data -/
theorem Rel.freeF {as : List Addr} {σ : St} {H : Hp} (R : Rel F ρ μ as σ H) {C dx : Addr} {f : Str} {k m : Nat} {fs : List (Str × Slot)} {es : List (Key × D)} (hkm : k ≠ m) (hk : μ[k]? = some (.ins C dx fs)) (hf : fs.lookup f = some (.cell m)) (hm : μ[m]? = some (.dic es)) :
    Rel F ρ ((μ.set m .dead).set k (.ins C dx (putS f (.dat (.dic es)) fs))) as σ H ∧ Adv (hid μ as) (hid ((μ.set m .dead).set k (.ins C dx (putS f (.dat (.dic es)) fs))) as) H H := by
  obtain ⟨q, hq, kvs, el, xl⟩ := R.cell hm
  obtain ⟨Rk, ak, np⟩ := R.kill hm rfl hq
  have hk' : (μ.set m .dead)[k]? = some (.ins C dx fs) := by rw [List.getElem?_set_ne (Ne.symm hkm)]; exact hk
  obtain ⟨p, hp, fvs, el2, xl2⟩ := Rk.cell hk'
  have dk : DatK (Hide (hid (μ.set m .dead) as ++ F.z) H) kvs es := xl.mono (.of ak.ge)
  have new : CellOk (hid (μ.set m .dead) as ++ F.z) as H (.ins C dx (putS f (.dat (.dic es)) fs)) p :=
    ⟨fvs, el2, flds_word (s := .cell m) (fun v y => by
      obtain ⟨a, ha, e⟩ := y
      rw [hq] at ha
      cases ha
      cases e
      exact ⟨_, rfl, .dic (.inl (by rw [hide_out np]; exact el)) dk⟩) xl2 hf⟩
  obtain ⟨R3, a3⟩ := Rk.poke (c' := .ins C dx (putS f (.dat (.dic es)) fs)) (H' := H) hk' rfl hp (fun b u _ e => e) rfl new
  exact ⟨R3, ak.trans a3⟩
theorem ws_freeF {C dx : Addr} {f : Str} {k m : Nat} {fs : List (Str × Slot)} {es : List (Key × D)} (hkm : k ≠ m) (hk : μ[k]? = some (.ins C dx fs)) (hf : fs.lookup f = some (.cell m)) (hm : μ[m]? = some (.dic es))
    (h : Ws F ts ρ ((μ.set m .dead).set k (.ins C dx (putS f (.dat (.dic es)) fs))) o) : Ws F ts ρ μ o := fun as σ H R E kk => by
  obtain ⟨R3, a3⟩ := R.freeF hkm hk hf hm
  exact h as σ H R3 E (kk.back (List.prefix_refl _) a3)
/-- the same behind a statement -/
theorem ws_freeFo {ρ1 : List Slot} {C dx : Addr} {f : Str} {k m : Nat} {fs : List (Str × Slot)} {es : List (Key × D)} (h : Ws F ts ρ μ (.nx ρ1 μ1)) (hkm : k ≠ m) (hk : μ1[k]? = some (.ins C dx fs)) (hf : fs.lookup f = some (.cell m)) (hm : μ1[m]? = some (.dic es)) :
    Ws F ts ρ μ (.nx ρ1 ((μ1.set m .dead).set k (.ins C dx (putS f (.dat (.dic es)) fs)))) := fun as σ H R E kk =>
  h as σ H R E fun as' σ' H' fr => by
    obtain ⟨R3, a3⟩ := fr.rel.freeF hkm hk hf hm
    exact kk as' σ' H' ⟨R3, fr.pre, fr.adv.trans a3⟩
end
/-- from the body of an __init__ to its promise -/
theorem run_M {C : Addr} {N : List Str} {RR : List D → List (Str × D) → Prop} {t : TS} {vs : List V} {H : Hp} {Q : VK} {E : XK} (h : spMk C RR vs H Q E)
    (hb : ∀ ds fs, RR ds fs → ∀ (F : Fm) (dx : Addr), F.ps.length = 1 → ∃ ρ μ, Ws F t (slotsP N.length ds) [.ins C dx []] (.nx ρ (.ins C dx (fs.map fun e => (e.1, .dat e.2)) :: μ))) :
    t { nx := fun _ H' => Q .non H', rt := Q } (L2.start N vs) H := by
  obtain ⟨x, dx, ws, z, ds, fs, rfl, xz, lv, hx, hd, dws, hR, k⟩ := h
  have xd : x ≠ dx := fun e => by subst e; rw [hx] at hd; cases hd
  let F : Fm := ⟨dx :: z, H, [x]⟩
  obtain ⟨ρ', μ', hw⟩ := hb ds fs hR F dx rfl
  have R0 : Rel F (slotsP N.length ds) [.ins C dx []] [x] (L2.start N (.ref x :: ws)) H := by
    refine { cells := .cons ⟨[], hx, .nil⟩ .nil, slots := ?_, nd := (by simp), zl := fun a m => ?_, dj := fun q m => ?_, base := fun b o _ e => e, pre := rfl, fresh := fun q m => .inl m, there := fun q m => (by rw [List.mem_singleton] at m; subst m; rw [hx]; simp) }
    · unfold slotsP L2.start
      refine .cons ⟨x, rfl, rfl⟩ ?_
      show Paired _ _ (ws.map some ++ List.replicate (N.length - (ws.length + 1)) none)
      rw [dws.len]
      exact pd_app (slots_dats dws) (pd_rep _)
    · rcases List.mem_cons.mp m with rfl | m
      · rw [hd]; simp
      · exact lv a m
    · rw [List.mem_singleton] at m
      subst m
      intro q
      rcases List.mem_cons.mp q with q | q
      · exact xd q
      · exact xz q
  refine hw [x] _ H R0 _ ?_
  intro as' σ' H' f
  obtain ⟨l, rfl⟩ := f.pre
  have cs := f.rel.cells
  cases cs with
  | cons c _ =>
    obtain ⟨fvs, e, y⟩ := c
    refine k H' fvs e (fun b o n1 n2 q => f.adv.keep b o (by simp [hid, Cell.live, n1]) q) ?_
    have aux : ∀ {fs : List (Str × D)} {fvs : List (Str × V)}, Paired (FldOk (hid (.ins C dx (fs.map fun e => (e.1, .dat e.2)) :: μ') ([x] ++ l) ++ F.z) ([x] ++ l) H') (fs.map fun e => (e.1, .dat e.2)) fvs → True := fun _ => trivial
    have sub : ∀ b, b ∈ x :: dx :: z → b ∈ hid (.ins C dx (fs.map fun e => (e.1, Slot.dat e.2)) :: μ') ([x] ++ l) ++ F.z := fun b m => by
      rcases List.mem_cons.mp m with rfl | m
      · exact List.mem_append_left _ (by show b ∈ (if _ then _ else _); simp [Cell.live])
      · exact List.mem_append_right _ m
    have go : ∀ (h as : List Addr) (fs : List (Str × D)) (fvs : List (Str × V)), (∀ b, b ∈ x :: dx :: z → b ∈ h) → Paired (FldOk h as H') (fs.map fun e => (e.1, Slot.dat e.2)) fvs → DatF (Hide (x :: dx :: z) H') fvs fs := by
      intro h as fs
      induction fs with
      | nil => intro fvs _ p; cases p; exact .nil
      | cons e fs ih =>
        intro fvs hs p
        cases p with
        | @cons _ g _ fvs q t =>
          obtain ⟨g1, g2⟩ := g
          obtain ⟨q1, v, q2, q3⟩ := q
          have q1 : e.1 = g1 := q1
          subst q1
          cases q2
          exact .cons (hide_less q3 hs) (ih fvs hs t)
    exact go _ _ fs fvs sub y
end Dl
end
section
set_option Elab.async false
set_option maxRecDepth 100000
set_option linter.all false
namespace Dl
open PySem L2
/-! ### {k: v for x in ..} -/
theorem dc_it {J : It} {n : Nat} {G : Hp → Prop} {Y : Nat → Hp → V → Hp → Prop} (w : Walk J n G Y) {g : TG} {tt : TT} {tk tv : TE} {vs : List Nat} {σ : St} {H1 : Hp} {D : Addr} {Qd : Hp → Prop} (Pv : Nat → Hp → Prop) (h0 : Pv 0 (upd H1 D (.dK []))) (hG : ∀ i H, i ≤ n → Pv i H → G H)
    (hs : ∀ i x H H', i < n → Pv i H → Y i H x H' → g x (wipe σ vs) H' fun σ2 H2 => wipe σ2 vs = wipe σ vs ∧ tt σ2 H2 fun b H3 =>
      if b = true then tk σ2 H3 fun y H4 => tv σ2 H4 fun z H5 => ∃ kvs k, y = kV k ∧ H5 D = some (.dK kvs) ∧ kvs.length < sizeLine ∧ Pv (i + 1) (upd H5 D (.dK (putK kvs k z))) else Pv (i + 1) H3) (hd : ∀ H, Pv n H → Qd H) :
    ∃ W : Nat → Nat → Hp → Prop, (∃ m, W 0 m (upd H1 D (.dK []))) ∧ ∀ i m H, W i m H →
      (J.stop i H ∧ Qd H) ∨ (J.go i H ∧ ∃ Nx : Hp → Prop, (∀ H', Nx H' → ∃ m', m' < m ∧ W (i + 1) m' H') ∧ ∀ x H', J.yld i H x H' → g x (wipe σ vs) H' fun σ2 H2 => wipe σ2 vs = wipe σ vs ∧ tt σ2 H2 fun b H3 =>
        if b = true then tk σ2 H3 fun y H4 => tv σ2 H4 fun z H5 => ∃ kvs k, y = kV k ∧ H5 D = some (.dK kvs) ∧ kvs.length < sizeLine ∧ Nx (upd H5 D (.dK (putK kvs k z))) else Nx H3) := by
  refine ⟨fun i m H => m + i = n ∧ Pv i H, ⟨n, by omega, h0⟩, fun i m H ⟨hm, p⟩ => ?_⟩
  have gq := hG i H (by omega) p
  rcases Nat.lt_or_ge i n with hlt | hge
  · exact .inr ⟨w.goes i H hlt gq, Pv (i + 1), fun H' p' => ⟨m - 1, by omega, by omega, p'⟩, fun x H' y => hs i x H H' hlt p (w.yields i H x H' hlt gq y)⟩
  · have e : i = n := by omega
    subst e
    exact .inl ⟨w.stops H gq, hd H p⟩
theorem putD_len (es : List (Key × D)) (k : Key) (d : D) : (putD es k d).length ≤ es.length + 1 := by
  unfold putD
  split
  · rw [List.length_map]; omega
  · rw [List.length_append]; simp
section
variable {F : Fm} {ρ ρ1 : List Slot} {μ μ1 μ2 : List Cell}
theorem dc_core_at {wi : TI} {g : TG} {tt : TT} {tk tv : TE} {vs : List Nat} {items : List D} {as : List Addr} {σ : St} {H : Hp} (hi : EvIat F wi ρ μ items μ1 as σ H) (hw : ∀ i ∈ vs, ρ[i]? = some .un) (hsz : items.length ≤ 1000000) (m : Nat → List Cell) (h0 : m 0 = μ1) (ys : Nat → List (Key × D)) (hy0 : ys 0 = [])
    (turn : ∀ i d, items[i]? = some d → ∀ F', ∃ ρ', EvG F' g vs ρ (m i) d ρ' ∧ ∃ b m', EvT F' tt ρ' (m i) b m' ∧
      if b = true then ∃ kk y m2, Ev F' tk ρ' m' (.dat (keyD kk)) m2 ∧ Ev F' tv ρ' m2 (.dat y) (m (i + 1)) ∧ ys (i + 1) = putD (ys i) kk y else m (i + 1) = m' ∧ ys (i + 1) = ys i) :
    ∀ R0 : Rel F ρ μ as σ H, ∀ Q : VK, (∀ (L : Addr) (acc : List (Key × V)) (as' : List Addr) (H' : Hp), H L = none → L ∉ F.z → F.B L = none → H' L = some (.dK acc) → Rel { F with z := L :: F.z } ρ (m items.length) as' σ H' → as <+: as' →
      Adv (hid μ as) (hid (m items.length) as') H H' → DatK (Hide (hid (m items.length) as' ++ L :: F.z) H') acc (ys items.length) → Q (.ref L) H') → tDc wi g tt tk tv vs σ H Q := fun R0 Q k =>
  hi R0 _ fun J as1 H1 R1 p1 a1 ⟨G, Y, w, st, yd⟩ L nL => by
    obtain ⟨RL, gL, BL, Lz⟩ := R1.under (H' := upd H1 L (.dK [])) nL (same_upd nL) (by rw [upd_same]; simp)
    have aL : Adv (hid μ1 as1) (hid μ1 as1) H1 (upd H1 L (.dK [])) := .same (same_upd nL)
    have see : ∀ i as' H', Adv (hid μ1 as1) (hid (m i) as') H1 H' → Same (Hide (hid μ1 as1 ++ F.z) H1) (Hide (hid (m i) as' ++ L :: F.z) H') := fun i as' H' a b o e => by
      have e' := a.ge (z := F.z) b o e
      obtain ⟨n, e'⟩ := hide_some e'
      rw [hide_out]
      · exact e'
      · intro q
        rcases List.mem_append.mp q with q | q
        · exact n (List.mem_append_left _ q)
        · rcases List.mem_cons.mp q with rfl | q
          · rw [hide_get e] at nL; cases nL
          · exact n (List.mem_append_right _ q)
    refine dc_it w (fun i H' => ∃ as' acc, H' L = some (.dK acc) ∧ Rel { F with z := L :: F.z } ρ (m i) as' (wipe σ vs) H' ∧ as1 <+: as' ∧ Adv (hid μ1 as1) (hid (m i) as') H1 H' ∧
      DatK (Hide (hid (m i) as' ++ L :: F.z) H') acc (ys i) ∧ (ys i).length ≤ i) ?_ (fun i H' _ ⟨as', _, _, _, _, a, _⟩ => st _ H' (see i as' H' a)) ?_ ?_
    · refine ⟨as1, [], upd_same, ?_, List.prefix_refl _, ?_, ?_, ?_⟩
      · rw [h0]; exact (Rel.wipe hw).mpr RL
      · rw [h0]; exact aL
      · rw [hy0]; exact .nil
      · rw [hy0]; exact Nat.le_refl _
    · rintro i x H' H'' hlt ⟨as', acc, eL, RR, pp, aa, da, hlen⟩ y
      obtain ⟨d, hd⟩ : ∃ d, items[i]? = some d := ⟨_, List.getElem?_eq_getElem hlt⟩
      obtain ⟨ρ', hg, b, m', ht, hb⟩ := turn i d hd { F with z := L :: F.z }
      obtain ⟨sm, dx⟩ := yd i d x _ H' H'' hd (see i as' H' aa) RR.live y
      have R2 := RR.same sm
      refine hg as' (wipe σ vs) H'' x R2 dx _ fun σ2 R3 hwp => ⟨hwp.trans (wipe_wipe σ vs), ?_⟩
      refine ht as' σ2 H'' R3 _ fun as2 H3 R4 p2 a2 => ?_
      have aX : Adv (hid (m i) as') (hid m' as2) H' H3 := (Adv.same sm).trans a2
      have keepL : ∀ {h' : List Addr} {Hn : Hp}, Adv (hid (m i) as') h' H' Hn → Hn L = some (.dK acc) := fun {h' Hn} a => a.keep L _ (fun q => RR.dj L (hid_sub _ _ _ q) List.mem_cons_self) eL
      -- what the slots said stays said
      have back : ∀ {mm : List Cell} {as3 : List Addr} {Hn : Hp} {ρ3 : List Slot} {σ3 : St}, Rel { F with z := L :: F.z } ρ3 mm as3 σ3 Hn → as' <+: as3 → Adv (hid (m i) as') (hid mm as3) H' Hn → Rel { F with z := L :: F.z } ρ mm as3 (wipe σ vs) Hn := fun R p a =>
        { R with slots := pd_imp RR.slots fun s o q => SlotOk.ext p (SlotOk.adv a q) }
      cases b with
      | true =>
        rw [if_pos rfl] at hb
        rw [if_pos rfl]
        obtain ⟨kk0, yv, m2, hek, he, hys⟩ := hb
        refine hek as2 σ2 H3 R4 _ fun v0 as25 H35 R45 p25 a25 sv0 => ?_
        cases dat_keyV (dat_slot sv0)
        refine he as25 σ2 H35 R45 _ fun v as3 H4 R5 p3 a3 sv => ?_
        have aY : Adv (hid (m i) as') (hid (m (i + 1)) as3) H' H4 := (aX.trans a25).trans a3
        have e4 := keepL aY
        refine ⟨acc, kk0, rfl, e4, ?_, ?_⟩
        · have q1 := da.len
          have : sizeLine > 1000000 := by decide
          omega
        · have kk : ∀ b u, b ≠ L → H4 b = some u → (upd H4 L (.dK (putK acc kk0 v))) b = some u := fun b u n e => by rw [upd_ne n]; exact e
          obtain ⟨R6, g6⟩ := (back R5 (p2.trans (p25.trans p3)) aY).poke0 (p := L) List.mem_cons_self BL kk (by rw [upd_same]; simp)
          refine ⟨as3, putK acc kk0 v, upd_same, R6, pp.trans (p2.trans (p25.trans p3)), ?_, ?_, ?_⟩
          · have aZ := aa.trans aY
            exact ⟨fun c u n e => kk c u (fun q => by subst q; rw [e] at nL; cases nL) (aZ.keep c u n e), aZ.new⟩
          · rw [hys]
            exact ((DatK.mono (.of aY.ge) da).mono (.of g6)).put ((dat_slot sv).mono (.of g6))
          · rw [hys]
            have := putD_len (ys i) kk0 yv
            omega
      | false =>
        rw [if_neg (by decide)] at hb
        rw [if_neg (by decide)]
        obtain ⟨hm, hys⟩ := hb
        refine ⟨as2, acc, keepL aX, ?_, pp.trans p2, ?_, ?_, ?_⟩
        · rw [hm]; exact back R4 p2 aX
        · rw [hm]; exact aa.trans aX
        · rw [hm, hys]; exact DatK.mono (.of aX.ge) da
        · rw [hys]; omega
    · rintro H' ⟨as', acc, eL, RR, pp, aa, da, hlen⟩
      have nL0 : H L = none := by
        cases h : H L with
        | none => rfl
        | some u =>
          exact absurd (a1.keep L u (fun q => R1.there L (p1.subset (hid_sub _ _ _ q)) nL) h) (by rw [nL]; simp)
      exact k L acc as' H' nL0 Lz BL eL ((Rel.wipe hw).mp RR) (p1.trans pp) (a1.trans aa) da
/-- the same of a dict -/
theorem Rel.ownK {as as0 : List Addr} {μ0 : List Cell} {σ : St} {H H0 : Hp} {L : Addr} {acc : List (Key × V)} {ds : List (Key × D)} (R : Rel { F with z := L :: F.z } ρ μ as σ H) (nL : H0 L = none) (Lz : L ∉ F.z) (BL : F.B L = none) (eL : H L = some (.dK acc))
    (da : DatK (Hide (hid μ as ++ L :: F.z) H) acc ds) (a : Adv (hid μ0 as0) (hid μ as) H0 H) : Rel F ρ (μ ++ [.dic ds]) (as ++ [L]) σ H ∧ Adv (hid μ0 as0) (hid (μ ++ [.dic ds]) (as ++ [L])) H0 H := by
  have eh : hid (μ ++ [.dic ds]) (as ++ [L]) = hid μ as ++ [L] := hid_snoc L rfl (pd_len R.cells)
  have ez : hid (μ ++ [.dic ds]) (as ++ [L]) ++ F.z = hid μ as ++ L :: F.z := by rw [eh, List.append_assoc]; rfl
  have hLas : L ∉ as := fun m => R.dj L m List.mem_cons_self
  refine ⟨{ cells := ?_, slots := ?_, nd := ?_, zl := fun b m => R.zl b (List.mem_cons_of_mem _ m), dj := ?_, base := R.base, pre := ?_, fresh := ?_, there := ?_ }, ⟨a.keep, fun b m => ?_⟩⟩
  · rw [ez]
    exact pd_snoc ⟨acc, eL, da⟩ (pd_imp R.cells fun c a r => CellOk.ext (List.prefix_append _ _) r)
  · rw [ez]
    exact pd_imp R.slots fun s o x => SlotOk.ext (List.prefix_append _ _) x
  · exact List.nodup_append.mpr ⟨R.nd, by simp, fun x hx y hy e => by
      rw [List.mem_singleton] at hy
      subst hy
      subst e
      exact hLas hx⟩
  · intro b m
    rcases List.mem_append.mp m with m | m
    · exact fun q => R.dj b m (List.mem_cons_of_mem _ q)
    · rw [List.mem_singleton] at m
      subst m
      exact Lz
  · have h : as.take F.ps.length = F.ps := R.pre
    have hl : F.ps.length ≤ as.length := by
      have := congrArg List.length h
      rw [List.length_take] at this
      omega
    rw [List.take_append_of_le_length hl]
    exact h
  · intro b m
    rcases List.mem_append.mp m with m | m
    · exact R.fresh b m
    · rw [List.mem_singleton] at m
      subst m
      exact .inr BL
  · intro b m
    rcases List.mem_append.mp m with m | m
    · exact R.there b m
    · rw [List.mem_singleton] at m
      subst m
      rw [eL]; simp
  · rw [eh] at m
    rcases List.mem_append.mp m with m | m
    · exact a.new b m
    · rw [List.mem_singleton] at m
      subst m
      exact .inr nL
/-- as the def's own dict -/
theorem ev_dcO {wi : TI} {g : TG} {tt : TT} {tk tv : TE} {vs : List Nat} {items : List D} (n : Nat) (hi : EvI F wi ρ μ items μ1) (hn : items.length = n) (hw : ∀ i ∈ vs, ρ[i]? = some .un) (hsz : n ≤ 1000000) (m : Nat → List Cell) (h0 : m 0 = μ1) (ys : Nat → List (Key × D)) (hy0 : ys 0 = [])
    (turn : ∀ i d, items[i]? = some d → ∀ F', ∃ ρ', EvG F' g vs ρ (m i) d ρ' ∧ ∃ b m', EvT F' tt ρ' (m i) b m' ∧
      if b = true then ∃ kk y m2, Ev F' tk ρ' m' (.dat (keyD kk)) m2 ∧ Ev F' tv ρ' m2 (.dat y) (m (i + 1)) ∧ ys (i + 1) = putD (ys i) kk y else m (i + 1) = m' ∧ ys (i + 1) = ys i) (k : Nat) (hk : k = (m n).length) :
    Ev F (tDc wi g tt tk tv vs) ρ μ (.cell k) (m n ++ [.dic (ys n)]) := fun as σ H R Q kk => by
  subst hn
  refine dc_core_at (hi as σ H) hw hsz m h0 ys hy0 turn R Q fun L acc as' H' nL Lz BL eL RR pp aa da => ?_
  obtain ⟨R2, a2⟩ := RR.ownK nL Lz BL eL da aa
  refine kk _ _ _ R2 (pp.trans (List.prefix_append _ _)) a2 ⟨L, ?_, rfl⟩
  subst hk
  rw [pd_len RR.cells]
  simp
/-- as data -/
theorem ev_dc {wi : TI} {g : TG} {tt : TT} {tk tv : TE} {vs : List Nat} {items : List D} (n : Nat) (hi : EvI F wi ρ μ items μ1) (hn : items.length = n) (hw : ∀ i ∈ vs, ρ[i]? = some .un) (hsz : n ≤ 1000000) (m : Nat → List Cell) (h0 : m 0 = μ1) (ys : Nat → List (Key × D)) (hy0 : ys 0 = [])
    (turn : ∀ i d, items[i]? = some d → ∀ F', ∃ ρ', EvG F' g vs ρ (m i) d ρ' ∧ ∃ b m', EvT F' tt ρ' (m i) b m' ∧
      if b = true then ∃ kk y m2, Ev F' tk ρ' m' (.dat (keyD kk)) m2 ∧ Ev F' tv ρ' m2 (.dat y) (m (i + 1)) ∧ ys (i + 1) = putD (ys i) kk y else m (i + 1) = m' ∧ ys (i + 1) = ys i) :
    Ev F (tDc wi g tt tk tv vs) ρ μ (.dat (.dic (ys n))) (m n) := fun as σ H R Q kk => by
  subst hn
  refine dc_core_at (hi as σ H) hw hsz m h0 ys hy0 turn R Q fun L acc as' H' nL Lz BL eL RR pp aa da => ?_
  obtain ⟨R6, g6, nL6⟩ := RR.over Lz
  exact kk _ as' H' R6 pp aa ⟨_, rfl, .dic (.inl (by rw [hide_out nL6]; exact eL)) (da.mono (.of g6))⟩
end
end Dl
end
section
set_option Elab.async false
set_option maxRecDepth 100000
set_option linter.all false
namespace Dl
open PySem L2
/-! ### sorted(d, key=str), d's keys texts -/
def rSortedDKS : List V → List V → Hp → VK → Prop := fun vs zs H Q => ∃ (a : Addr) (kvs : List (Key × V)) (ks : List Str), vs = [.ref a] ∧ zs = [.ty "str"] ∧ Rd H a (.dK kvs) ∧ kvs.map (·.1) = ks.map Sum.inr ∧ ks.length ≤ 1000 ∧ ∀ p, H p = none → Q (.ref p) (upd H p (.lst ((sortS ks).map V.str)))
theorem each_of_strs : ∀ {us : List Value} {xs : List Str}, PyProof.Rows.StrsAre us xs → PySem.W.EachIs (fun v x => ∃ t, v = Value.str x t) us xs
  | _, _, .nil => .nil
  | _, _, .cons y t r => .cons ⟨t, rfl⟩ (each_of_strs r)
theorem sortS_len' (xs : List Str) : (sortS xs).length = xs.length := List.length_mergeSort _
section
variable {X : Cx}
theorem cr_sortedDKS (hcalm : X.calm = true) (hu : X.A.units + 64 < cLine) : CallRK X (.builtin "sorted") [Str.ofString "key"] rSortedDKS := by
  intro pins s σ H vs0 zs us ws Q I r rz h
  obtain ⟨a, kvs, ks, rfl, rfl, hd, hks, h64, q⟩ := h
  obtain rfl := Vals.ref1 r
  obtain ⟨w1, rfl, e1⟩ := vals1 rz
  obtain rfl : w1 = Value.type "str" := e1
  obtain ⟨z, lo, vs, rel, dd⟩ := dk_rd I.hok hd
  obtain ⟨ep, hat⟩ := dd.dictAt
  have hkeys : vs.map (·.1) = ks.map Sum.inr := rel.keys.symm.trans hks
  have hl : vs.length = ks.length := by
    have e := congrArg List.length hkeys
    rw [List.length_map, List.length_map] at e
    exact e
  have h16 : vs.length ≤ sizeLine := by rw [hl, sizeLine_eq]; omega
  refine PyProof.Rows.call_function_entry_kw PyProof.Rows.kind_sorted PyProof.Rows.plain_sorted PyProof.Rows.entry_sorted (PyProof.Rows.ksk_s1 _ _) ?_
  unfold Builtin.«sorted»
  refine wpAny_bind (m := checkCount "sorted" 1 1 _) (wpAny_pure ?_)
  refine wpAny_bind (PySem.W.kdu_collect (A := X.A.in1) (PySem.W.kdl_dict (knd := mixKind X.prog X.w) (kvs := vs) (ep := ep) lo) (I.ok.hd hcalm) hat h16 fun h' tk acc hk hacc => ?_)
  have hal : acc.toList.length = ks.length := by rw [Array.length_toList, hacc.1, hl]
  have hS : PyProof.Rows.StrsAre acc.toList ks := strs_at hal fun j v e => by
    obtain ⟨k, x, e1, e2⟩ := hacc.2 j v (by rw [← Array.getElem?_toList]; exact e)
    have e3 : (vs.map (·.1))[j]? = some k := by rw [List.getElem?_map, e1]; rfl
    rw [hkeys, List.getElem?_map] at e3
    cases e4 : ks[j]? with
    | none => rw [e4] at e3; cases e3
    | some y =>
      rw [e4] at e3
      have e5 : Sum.inr y = k := Option.some.inj e3
      subst e5
      obtain ⟨t, ev⟩ := Value.isStrOf_shape (x := y) (v := v) e2
      exact ⟨y, t, rfl, ev⟩
  have I1 : Inv X pins σ H { s with heap := h', toks := tk } := I.kept hk
  have hz1000 : (1000 : Nat) ≤ sizeLine := by decide
  refine wpAny_bind (wpAny_newList ?_ (by rw [hal]; omega))
  have hoL : (h'.push (PyProof.Rows.seqObj "list" acc.toList.toArray 0)).get? h'.objs.size = some (PyProof.Rows.seqObj "list" acc.toList.toArray 0) := Heap.get?_push_size _ rfl
  show wpAny _ _ _ _ _ { s with heap := h'.push (PyProof.Rows.seqObj "list" acc.toList.toArray 0), toks := tk }
  have E := each_of_strs hS
  refine wpAny_bind (wpAny_holding (PyProof.Rows.wpAny_call_entry_kw PyProof.Rows.slot_list_sort ⟨_, hoL, rfl⟩ PyProof.Rows.entry_list_sort ?body (PyProof.Rows.ksk_l1 _ _)))
  case body =>
    show wpAny _ _ (PyProof.Rows.ksk_tree h'.objs.size (.type "str") false) _ _ _
    refine PySem.W.keyH_tree (kz := ks.map PyData.str) (s := { s with heap := h'.push (PyProof.Rows.seqObj "list" acc.toList.toArray 0), toks := tk }) hoL (by rw [List.length_map, hal]) (by rw [hal]; omega) ?al ?so ?un
      (PySem.W.keyH_turns (s := { s with heap := h'.push (PyProof.Rows.seqObj "list" acc.toList.toArray 0), toks := tk }) E fun v x hR hx h2 tk2 kp => ?turn) fun h2 tk2 out c kp hD ko => ?fin
    case al =>
      intro d hd d' hd'
      obtain ⟨x, _, rfl⟩ := List.mem_map.mp hd
      obtain ⟨y, _, rfl⟩ := List.mem_map.mp hd'
      simp only [PySem.W.alike]
    case so =>
      right
      intro d hd
      obtain ⟨x, _, rfl⟩ := List.mem_map.mp hd
      exact ⟨by simp, fun _ => by simp⟩
    case un =>
      intro d hd
      obtain ⟨x, _, rfl⟩ := List.mem_map.mp hd
      have : (PyData.str x).depth = 0 := by simp [PyData.depth]
      rw [this]
      show X.A.units + 1 + 1 + 0 < cLine
      omega
    case turn =>
      obtain ⟨t, rfl⟩ := hR
      refine PySem.P.str_of_str ⟨h2, tk2, rfl, fun b o e => e, ?_⟩
      exact Reads.str x t
    case fin =>
      refine ⟨_, rfl, wpAny_pure ⟨_, rfl, ?_⟩⟩
      have e : ks.mergeSort (PySem.W.dataLe false PyData.str) = sortS ks := by
        unfold sortS
        rw [show (PyData.str : Str → PyData) = fun b => PyData.str (id b) from rfl, PySem.W.dataLe_str]
        rfl
      have eo := PySem.W.keyedOut_each PyData.str ko E
      rw [e] at eo
      refine ⟨.ref h'.objs.size, upd H h'.objs.size (.lst ((sortS ks).map V.str)), I1.laid (t' := tk2) (fun b u eb => ?_) (Nat.le_refl _) (show ObjOk X.prog X.w _ _ _ (.lst ((sortS ks).map V.str)) from ⟨?_, out, c, strs_each eo, hD⟩), rfl, q _ (I1.hok.fresh (Nat.le_refl _))⟩
      · have hb : b < h'.objs.size := Heap.lt_size eb
        exact kp b u (Nat.ne_of_lt hb) (Heap.get?_push_of_some _ eb)
      · rw [List.length_map, sortS_len']
        omega
theorem pe_sortedDStr {p pos : Pos} {e : Expr} {k : Keyword} {te : TE} (hcalm : X.calm = true) (hu : X.A.units + 64 < cLine) (hg : Gl X "sorted") (hm : X.mg "sorted" = none) (he : PA X [e] (tCons te tNil)) (hk : PK X [k] (tCons (tC (.ty "str")) tNil))
    (h1 : backTo pos (starEach [e] X.env) = (false, eval e X.env) :: backTo pos (starEach [] X.env) := by rfl) (hpl : (backTo pos (starEach [e] X.env)).any (·.1) = false := by rfl)
    (hall : (backToKw pos (keywordEach [k] X.env)).all (·.1.isSome) = true := by rfl) (hnone : (backToKw pos (keywordEach [k] X.env)).any (·.1.isNone) = false := by rfl) (hks : (backToKw pos (keywordEach [k] X.env)).filterMap (·.1) = [Str.ofString "key"] := by rfl) :
    PE X (.Call (.Name "sorted" p) [e] [k] pos) (tCKw rSortedDKS (tCons te tNil) (tCons (tC (.ty "str")) tNil)) :=
  pe_callBK (cr_sortedDKS hcalm hu) hg hm (by decide +kernel) he hk (by decide) (by decide) h1 hpl hall hnone hks
end
section
variable {F : Fm} {ρ : List Slot} {μ μ1 : List Cell} {te : TE}
theorem ev_sortedD {es : List (Key × D)} {ks : List Str} (hk : es.map (·.1) = ks.map Sum.inr) (hl : ks.length ≤ 1000) (h : Ev F te ρ μ (.dat (.dic es)) μ1) : Ev F (tCKw rSortedDKS (tCons te tNil) (tCons (tC (.ty "str")) tNil)) ρ μ (.dat (.lst ((sortS ks).map .str))) μ1 := fun as σ H R Q k =>
  h as σ H R _ fun v as1 H1 R1 p1 a1 x1 => by
    obtain ⟨p, kvs, rfl, e, q⟩ := dat_dic (dat_slot x1)
    refine ⟨p, kvs, ks, rfl, rfl, rd_hide e, by rw [q.keys, hk], hl, fun l nl => k _ as1 _ (R1.same (same_upd nl)) p1 (a1.trans (.same (same_upd nl))) ⟨_, rfl, .lst (hide_new R1.live nl) ?_⟩⟩
    have : ∀ ys : List Str, Dats (Hide (hid μ1 as1 ++ F.z) (upd H1 l (.lst ((sortS ks).map V.str)))) (ys.map V.str) (ys.map D.str) := fun ys => by
      induction ys with
      | nil => exact .nil
      | cons y ys ih => exact .cons (.str y) ih
    exact this _
end
end Dl
end
section
set_option Elab.async false
set_option maxRecDepth 100000
set_option linter.all false
namespace Dl
open PySem L2
/-! ### a dict whose values may be the def's own lists -/
section
variable {h as : List Addr} {H : Hp}
theorem ents_any {k : Key} : ∀ {es : List (Key × Slot)} {kvs : List (Key × V)}, Paired (EntOk h as H) es kvs → (kvs.any fun kv => decide (kv.1 = k)) = (es.any fun e => decide (e.1 = k))
  | _, _, .nil => rfl
  | _, _, .cons y r => by rw [List.any_cons, List.any_cons, ents_any r, y.1]
theorem ents_put {k : Key} {s : Slot} {v : V} (x : SlotOk h as H s (some v)) {es : List (Key × Slot)} {kvs : List (Key × V)} (r : Paired (EntOk h as H) es kvs) (nk : k ∉ es.map (·.1)) : Paired (EntOk h as H) (es ++ [(k, s)]) (putK kvs k v) := by
  have e : putK kvs k v = kvs ++ [(k, v)] := by
    unfold putK
    rw [ents_any r, if_neg]
    intro q
    obtain ⟨e, he, q⟩ := List.any_eq_true.mp q
    exact nk (List.mem_map.mpr ⟨e, he, of_decide_eq_true q⟩)
  rw [e]
  exact pd_snoc ⟨rfl, x⟩ r
def lookS (es : List (Key × Slot)) (k : Key) : Option Slot := (es.find? fun e => decide (e.1 = k)).map (·.2)
theorem ents_look {k : Key} {s : Slot} : ∀ {es : List (Key × Slot)} {kvs : List (Key × V)}, Paired (EntOk h as H) es kvs → lookS es k = some s → ∃ v, valV kvs k = some v ∧ SlotOk h as H s (some v)
  | _, _, .nil, e => by cases e
  | _, _, @Paired.cons _ _ _ (k', s') (k'', w) es kvs y r, e => by
    have ek : k' = k'' := y.1
    subst ek
    by_cases hk : k' = k
    · have e : lookS ((k', s') :: es) k = some s := e
      simp [lookS, List.find?_cons, hk] at e
      subst e
      exact ⟨w, valV_pos (p := (k', w)) hk, y.2⟩
    · have e : lookS es k = some s := by
        have e : lookS ((k', s') :: es) k = some s := e
        simpa [lookS, List.find?_cons, hk] using e
      obtain ⟨v, h1, h2⟩ := ents_look r e
      exact ⟨v, by rw [valV_neg (p := (k', w)) hk]; exact h1, h2⟩
end
section
variable {F : Fm} {ρ ρ1 : List Slot} {μ μ1 μ2 : List Cell} {ta td tk : TE} {o : Out} {ts : TS}
theorem Rel.ownS {as as0 : List Addr} {μ0 : List Cell} {σ : St} {H H0 : Hp} {L : Addr} {acc : List (Key × V)} {ds : List (Key × Slot)} (R : Rel { F with z := L :: F.z } ρ μ as σ H) (nL : H0 L = none) (Lz : L ∉ F.z) (BL : F.B L = none) (eL : H L = some (.dK acc))
    (da : Paired (EntOk (hid μ as ++ L :: F.z) as H) ds acc) (a : Adv (hid μ0 as0) (hid μ as) H0 H) : Rel F ρ (μ ++ [.dcs ds]) (as ++ [L]) σ H ∧ Adv (hid μ0 as0) (hid (μ ++ [.dcs ds]) (as ++ [L])) H0 H := by
  have eh : hid (μ ++ [.dcs ds]) (as ++ [L]) = hid μ as ++ [L] := hid_snoc L rfl (pd_len R.cells)
  have ez : hid (μ ++ [.dcs ds]) (as ++ [L]) ++ F.z = hid μ as ++ L :: F.z := by rw [eh, List.append_assoc]; rfl
  have hLas : L ∉ as := fun m => R.dj L m List.mem_cons_self
  refine ⟨{ cells := ?_, slots := ?_, nd := ?_, zl := fun b m => R.zl b (List.mem_cons_of_mem _ m), dj := ?_, base := R.base, pre := ?_, fresh := ?_, there := ?_ }, ⟨a.keep, fun b m => ?_⟩⟩
  · rw [ez]
    exact pd_snoc ⟨acc, eL, pd_imp da fun f g y => ⟨y.1, SlotOk.ext (List.prefix_append _ _) y.2⟩⟩ (pd_imp R.cells fun c a r => CellOk.ext (List.prefix_append _ _) r)
  · rw [ez]
    exact pd_imp R.slots fun s o x => SlotOk.ext (List.prefix_append _ _) x
  · exact List.nodup_append.mpr ⟨R.nd, by simp, fun x hx y hy e => by
      rw [List.mem_singleton] at hy
      subst hy
      subst e
      exact hLas hx⟩
  · intro b m
    rcases List.mem_append.mp m with m | m
    · exact fun q => R.dj b m (List.mem_cons_of_mem _ q)
    · rw [List.mem_singleton] at m
      subst m
      exact Lz
  · have h : as.take F.ps.length = F.ps := R.pre
    have hl : F.ps.length ≤ as.length := by
      have := congrArg List.length h
      rw [List.length_take] at this
      omega
    rw [List.take_append_of_le_length hl]
    exact h
  · intro b m
    rcases List.mem_append.mp m with m | m
    · exact R.fresh b m
    · rw [List.mem_singleton] at m
      subst m
      exact .inr BL
  · intro b m
    rcases List.mem_append.mp m with m | m
    · exact R.there b m
    · rw [List.mem_singleton] at m
      subst m
      rw [eL]; simp
  · rw [eh] at m
    rcases List.mem_append.mp m with m | m
    · exact a.new b m
    · rw [List.mem_singleton] at m
      subst m
      exact .inr nL
/-- {k: v for x in ..}, the values may be own lists made in the turns -/
theorem ev_dcS {wi : TI} {g : TG} {tt : TT} {tk tv : TE} {vs : List Nat} {items : List D} (n : Nat) (hi : EvI F wi ρ μ items μ1) (hn : items.length = n) (hw : ∀ i ∈ vs, ρ[i]? = some .un) (hsz : n ≤ 1000000) (m : Nat → List Cell) (h0 : m 0 = μ1) (ys : Nat → List (Key × Slot)) (hy0 : ys 0 = [])
    (turn : ∀ i d, items[i]? = some d → ∀ F', ∃ ρ', EvG F' g vs ρ (m i) d ρ' ∧ ∃ m', EvT F' tt ρ' (m i) true m' ∧
      ∃ kk s m2, Ev F' tk ρ' m' (.dat (keyD kk)) m2 ∧ Ev F' tv ρ' m2 s (m (i + 1)) ∧ kk ∉ (ys i).map (·.1) ∧ ys (i + 1) = ys i ++ [(kk, s)]) (k : Nat) (hk : k = (m n).length) :
    Ev F (tDc wi g tt tk tv vs) ρ μ (.cell k) (m n ++ [.dcs (ys n)]) := fun as σ H R0 Q kq => by
  subst hn
  refine hi as σ H R0 _ fun J as1 H1 R1 p1 a1 ⟨G, Y, w, st, yd⟩ L nL => ?_
  obtain ⟨RL, gL, BL, Lz⟩ := R1.under (H' := upd H1 L (.dK [])) nL (same_upd nL) (by rw [upd_same]; simp)
  have aL : Adv (hid μ1 as1) (hid μ1 as1) H1 (upd H1 L (.dK [])) := .same (same_upd nL)
  have see : ∀ i as' H', Adv (hid μ1 as1) (hid (m i) as') H1 H' → Same (Hide (hid μ1 as1 ++ F.z) H1) (Hide (hid (m i) as' ++ L :: F.z) H') := fun i as' H' a b o e => by
    have e' := a.ge (z := F.z) b o e
    obtain ⟨n, e'⟩ := hide_some e'
    rw [hide_out]
    · exact e'
    · intro q
      rcases List.mem_append.mp q with q | q
      · exact n (List.mem_append_left _ q)
      · rcases List.mem_cons.mp q with rfl | q
        · rw [hide_get e] at nL; cases nL
        · exact n (List.mem_append_right _ q)
  refine dc_it w (fun i H' => ∃ as' acc, H' L = some (.dK acc) ∧ Rel { F with z := L :: F.z } ρ (m i) as' (wipe σ vs) H' ∧ as1 <+: as' ∧ Adv (hid μ1 as1) (hid (m i) as') H1 H' ∧
    Paired (EntOk (hid (m i) as' ++ L :: F.z) as' H') (ys i) acc ∧ (ys i).length ≤ i) ?_ (fun i H' _ ⟨as', _, _, _, _, a, _⟩ => st _ H' (see i as' H' a)) ?_ ?_
  · refine ⟨as1, [], upd_same, ?_, List.prefix_refl _, ?_, ?_, ?_⟩
    · rw [h0]; exact (Rel.wipe hw).mpr RL
    · rw [h0]; exact aL
    · rw [hy0]; exact .nil
    · rw [hy0]; exact Nat.le_refl _
  · rintro i x H' H'' hlt ⟨as', acc, eL, RR, pp, aa, da, hlen⟩ y
    obtain ⟨d, hd⟩ : ∃ d, items[i]? = some d := ⟨_, List.getElem?_eq_getElem hlt⟩
    obtain ⟨ρ', hg, m', ht, kk0, sl, m2, hek, he, hnk, hys⟩ := turn i d hd { F with z := L :: F.z }
    obtain ⟨sm, dx⟩ := yd i d x _ H' H'' hd (see i as' H' aa) RR.live y
    have R2 := RR.same sm
    refine hg as' (wipe σ vs) H'' x R2 dx _ fun σ2 R3 hwp => ⟨hwp.trans (wipe_wipe σ vs), ?_⟩
    refine ht as' σ2 H'' R3 _ fun as2 H3 R4 p2 a2 => ?_
    have aX : Adv (hid (m i) as') (hid m' as2) H' H3 := (Adv.same sm).trans a2
    have keepL : ∀ {h' : List Addr} {Hn : Hp}, Adv (hid (m i) as') h' H' Hn → Hn L = some (.dK acc) := fun {h' Hn} a => a.keep L _ (fun q => RR.dj L (hid_sub _ _ _ q) List.mem_cons_self) eL
    have back : ∀ {mm : List Cell} {as3 : List Addr} {Hn : Hp} {ρ3 : List Slot} {σ3 : St}, Rel { F with z := L :: F.z } ρ3 mm as3 σ3 Hn → as' <+: as3 → Adv (hid (m i) as') (hid mm as3) H' Hn → Rel { F with z := L :: F.z } ρ mm as3 (wipe σ vs) Hn := fun R p a =>
      { R with slots := pd_imp RR.slots fun s o q => SlotOk.ext p (SlotOk.adv a q) }
    rw [if_pos rfl]
    refine hek as2 σ2 H3 R4 _ fun v0 as25 H35 R45 p25 a25 sv0 => ?_
    cases dat_keyV (dat_slot sv0)
    refine he as25 σ2 H35 R45 _ fun v as3 H4 R5 p3 a3 sv => ?_
    have aY : Adv (hid (m i) as') (hid (m (i + 1)) as3) H' H4 := (aX.trans a25).trans a3
    have pY : as' <+: as3 := p2.trans (p25.trans p3)
    have e4 := keepL aY
    refine ⟨acc, kk0, rfl, e4, ?_, ?_⟩
    · have q1 := pd_len da
      have : sizeLine > 1000000 := by decide
      omega
    · have kk : ∀ b u, b ≠ L → H4 b = some u → (upd H4 L (.dK (putK acc kk0 v))) b = some u := fun b u n e => by rw [upd_ne n]; exact e
      obtain ⟨R6, g6⟩ := (back R5 pY aY).poke0 (p := L) List.mem_cons_self BL kk (by rw [upd_same]; simp)
      refine ⟨as3, putK acc kk0 v, upd_same, R6, pp.trans pY, ?_, ?_, ?_⟩
      · have aZ := aa.trans aY
        exact ⟨fun c u n e => kk c u (fun q => by subst q; rw [e] at nL; cases nL) (aZ.keep c u n e), aZ.new⟩
      · rw [hys]
        refine ents_put (SlotOk.mono (.of g6) sv) (pd_imp da fun f g y => ⟨y.1, SlotOk.mono (.of g6) (SlotOk.ext pY (SlotOk.adv aY y.2))⟩) hnk
      · rw [hys, List.length_append, List.length_singleton]
        omega
  · rintro H' ⟨as', acc, eL, RR, pp, aa, da, hlen⟩
    have nL0 : H L = none := by
      cases h : H L with
      | none => rfl
      | some u =>
        exact absurd (a1.keep L u (fun q => R1.there L (p1.subset (hid_sub _ _ _ q)) nL) h) (by rw [nL]; simp)
    obtain ⟨R2, a2⟩ := ((Rel.wipe hw).mp RR).ownS nL0 Lz BL eL da (a1.trans aa)
    refine kq _ _ _ R2 (p1.trans (pp.trans (List.prefix_append _ _))) a2 ⟨L, ?_, rfl⟩
    subst hk
    rw [pd_len RR.cells]
    simp
/-- d[k] of such a dict -/
theorem ev_dgetS {n : Nat} {es : List (Key × Slot)} {k : Key} {s : Slot} (hd : lookS es k = some s) (ha : Ev F td ρ μ (.cell n) μ1) (hb : Ev F tk ρ μ1 (.dat (keyD k)) μ2) (hk : μ2[n]? = some (.dcs es)) : Ev F (tDGet td tk) ρ μ s μ2 := fun as σ H R Q kk =>
  ha as σ H R _ fun v1 as1 H1 R1 p1 a1 x1 => hb as1 σ H1 R1 _ fun v2 as2 H2 R2 p2 a2 x2 => by
    obtain ⟨p, hp, e'⟩ := SlotOk.ext p2 x1
    cases e'
    cases dat_keyV (dat_slot x2)
    obtain ⟨q, hq, kvs, el, xl⟩ := R2.cell hk
    rw [hp] at hq
    cases hq
    obtain ⟨v, h1, h2⟩ := ents_look xl hd
    exact ⟨p, v, rfl, .inl ⟨kvs, k, .inl el, rfl, h1.symm⟩, kk v as2 H2 R2 (p1.trans p2) (a1.trans a2) h2⟩
/-! all of it becomes data -/
def killAll (μ : List Cell) (ms : List Nat) : List Cell := ms.foldl (fun μ m => μ.set m .dead) μ
theorem killAll_get {k : Nat} : ∀ (ms : List Nat) (μ : List Cell), k ∉ ms → (killAll μ ms)[k]? = μ[k]?
  | [], μ, _ => rfl
  | m :: ms, μ, h => by
    show (killAll (μ.set m .dead) ms)[k]? = _
    rw [killAll_get ms _ fun q => h (List.mem_cons_of_mem _ q), List.getElem?_set_ne (show m ≠ k from fun q => h (by rw [q]; exact List.mem_cons_self))]
theorem Rel.killAll {as : List Addr} {σ : St} {H : Hp} : ∀ (ms : List Nat) {μ : List Cell}, ms.Nodup → (∀ m ∈ ms, ∃ ds, μ[m]? = some (.lst ds)) → Rel F ρ μ as σ H →
    Rel F ρ (Dl.killAll μ ms) as σ H ∧ Adv (hid μ as) (hid (Dl.killAll μ ms) as) H H ∧ ∀ m ∈ ms, ∀ a, as[m]? = some a → a ∉ hid (Dl.killAll μ ms) as ++ F.z
  | [], μ, _, _, R => ⟨R, .refl _ _, fun m h => by cases h⟩
  | m :: ms, μ, nd, hm, R => by
    obtain ⟨ds, hds⟩ := hm m List.mem_cons_self
    obtain ⟨p, hp, _⟩ := R.cell hds
    obtain ⟨Rk, ak, np⟩ := R.kill hds rfl hp
    have nd' := List.nodup_cons.mp nd
    obtain ⟨R2, a2, n2⟩ := Rel.killAll ms (μ := μ.set m .dead) nd'.2 (fun k hk => by
      rw [List.getElem?_set_ne (show m ≠ k from fun q => nd'.1 (by rw [q]; exact hk))]
      exact hm k (List.mem_cons_of_mem _ hk)) Rk
    refine ⟨R2, ak.trans a2, fun k hk a ha => ?_⟩
    rcases List.mem_cons.mp hk with rfl | hk
    · rw [hp] at ha
      cases ha
      intro q
      rcases List.mem_append.mp q with q | q
      · rcases a2.new p q with q | q
        · exact np (List.mem_append_left _ q)
        · exact R.there p (List.mem_of_getElem? hp) q
      · exact np (List.mem_append_right _ q)
    · exact n2 k hk a ha
theorem ev_freeDS {k : Nat} {xs : List (Key × Nat)} {f : Key × Nat → List D} (ha : Ev F ta ρ μ (.cell k) μ1) (hk : μ1[k]? = some (.dcs (xs.map fun e => (e.1, .cell e.2)))) (hm : ∀ e ∈ xs, μ1[e.2]? = some (.lst (f e))) (nd : (xs.map (·.2)).Nodup) :
    Ev F ta ρ μ (.dat (.dic (xs.map fun e => (e.1, .lst (f e))))) ((killAll μ1 (xs.map (·.2))).set k .dead) := fun as σ H R Q kk =>
  ha as σ H R _ fun v1 as1 H1 R1 p1 a1 x1 => by
    obtain ⟨p, hp, e⟩ := x1
    cases e
    obtain ⟨q, hq, kvs, el, xl⟩ := R1.cell hk
    rw [hp] at hq
    cases hq
    obtain ⟨R2, a2, n2⟩ := Rel.killAll (xs.map (·.2)) nd (fun m hm' => by
      obtain ⟨e, he, rfl⟩ := List.mem_map.mp hm'
      exact ⟨_, hm e he⟩) R1
    have hkn : k ∉ xs.map (·.2) := fun q => by
      obtain ⟨e, he, rfl⟩ := List.mem_map.mp q
      have := hm e he
      rw [hk] at this
      cases this
    have hk2 : (killAll μ1 (xs.map (·.2)))[k]? = some (.dcs (xs.map fun e => (e.1, .cell e.2))) := by rw [killAll_get _ _ hkn]; exact hk
    obtain ⟨R3, a3, np⟩ := R2.kill hk2 rfl hp
    have hno : ∀ m ∈ xs.map (·.2), ∀ a, as1[m]? = some a → a ∉ hid ((killAll μ1 (xs.map (·.2))).set k .dead) as1 ++ F.z := fun m hm' a ha q => by
      rcases List.mem_append.mp q with q | q
      · rcases a3.new a q with q | q
        · exact n2 m hm' a ha (List.mem_append_left _ q)
        · exact R1.there a (List.mem_of_getElem? ha) q
      · exact n2 m hm' a ha (List.mem_append_right _ q)
    have cells : ∀ e ∈ xs, ∃ a vs, as1[e.2]? = some a ∧ H1 a = some (.lst vs) ∧ Dats (Hide (hid ((killAll μ1 (xs.map (·.2))).set k .dead) as1 ++ F.z) H1) vs (f e) := fun e he => by
      obtain ⟨a, ha, vs, ea, xa⟩ := R1.cell (hm e he)
      exact ⟨a, vs, ha, ea, (a2.trans a3).dats xa⟩
    have dk : ∀ (ys : List (Key × Nat)) (kvs : List (Key × V)), (∀ e ∈ ys, e ∈ xs) → Paired (EntOk (hid μ1 as1 ++ F.z) as1 H1) (ys.map fun e => (e.1, Slot.cell e.2)) kvs →
        DatK (Hide (hid ((killAll μ1 (xs.map (·.2))).set k .dead) as1 ++ F.z) H1) kvs (ys.map fun e => (e.1, D.lst (f e))) := by
      intro ys
      induction ys with
      | nil =>
        intro kvs _ r
        cases r
        exact .nil
      | cons y ys ih =>
        intro kvs hs r
        cases r with
        | @cons _ g _ kvs y1 r =>
          obtain ⟨k', v'⟩ := g
          have ek : y.1 = k' := y1.1
          subst ek
          obtain ⟨a, ha, ev⟩ := y1.2
          cases ev
          have hy := hs y List.mem_cons_self
          obtain ⟨a', vs, ha', ea, xa⟩ := cells y hy
          rw [ha] at ha'
          cases ha'
          exact .cons (.lst (by rw [hide_out (hno y.2 (List.mem_map.mpr ⟨y, hy, rfl⟩) a ha)]; exact ea) xa) (ih kvs (fun e he => hs e (List.mem_cons_of_mem _ he)) r)
    exact kk _ as1 H1 R3 p1 (a1.trans (a2.trans a3)) ⟨_, rfl, .dic (.inl (by rw [hide_out np]; exact el)) (dk xs kvs (fun e he => he) xl)⟩
/-! ### walks over the dict in a field of the instance under construction -/
theorem evp_fldC {K : PySem.W.Frag} (i : Nat) {k : Nat} {C dx : Addr} {f : Str} {fs : List (Str × Slot)} {es : List (Key × D)} (c : Cls K C) (n : NoAttr K C f) (h : ρ[i]? = some (.cell k)) (hk : μ[k]? = some (.ins C dx fs)) (hf : fs.lookup f = some (.dat (.dic es))) : EvP (tFld K (tVar i) f) ρ μ es := fun F as σ H R => by
  obtain ⟨o, e, x⟩ := R.slot h
  obtain ⟨p, hp, rfl⟩ := x
  obtain ⟨q, hq, fvs, el, xl⟩ := R.cell hk
  rw [hp] at hq
  cases hq
  obtain ⟨v, hv, sv⟩ := flds_look xl hf
  obtain ⟨w, ew, dv⟩ := sv
  cases ew
  obtain ⟨p2, kvs2, rfl, q2, r2⟩ := dat_dic dv
  have hin : p ∈ hid μ as := (hid_kill k hk rfl hp R.nd p).mpr (.inl rfl)
  refine ⟨p2, kvs2, ?_, rd_hide q2, r2, fun H' Q g hc kk => ⟨_, e, p, C, dx, fvs, .ref p2, rfl, hc _ _ hin el, c, n, hv, kk⟩⟩
  rcases q2 with q2 | ⟨o, q2⟩
  · exact (hide_some q2).1
  · exact (hide_some q2).1
/-- the same at one state -/
theorem ev_dc_at {wi : TI} {g : TG} {tt : TT} {tk tv : TE} {vs : List Nat} {items : List D} {as : List Addr} {σ : St} {H : Hp} (n : Nat) (hi : EvIat F wi ρ μ items μ1 as σ H) (hn : items.length = n) (hw : ∀ i ∈ vs, ρ[i]? = some .un) (hsz : n ≤ 1000000) (m : Nat → List Cell) (h0 : m 0 = μ1) (ys : Nat → List (Key × D)) (hy0 : ys 0 = [])
    (turn : ∀ i d, items[i]? = some d → ∀ F', ∃ ρ', EvG F' g vs ρ (m i) d ρ' ∧ ∃ b m', EvT F' tt ρ' (m i) b m' ∧
      if b = true then ∃ kk y m2, Ev F' tk ρ' m' (.dat (keyD kk)) m2 ∧ Ev F' tv ρ' m2 (.dat y) (m (i + 1)) ∧ ys (i + 1) = putD (ys i) kk y else m (i + 1) = m' ∧ ys (i + 1) = ys i) :
    EvAt F (tDc wi g tt tk tv vs) ρ μ (.dat (.dic (ys n))) (m n) as σ H := fun R Q kk => by
  subst hn
  refine dc_core_at hi hw hsz m h0 ys hy0 turn R Q fun L acc as' H' nL Lz BL eL RR pp aa da => ?_
  obtain ⟨R6, g6, nL6⟩ := RR.over Lz
  exact kk _ as' H' R6 pp aa ⟨_, rfl, .dic (.inl (by rw [hide_out nL6]; exact eL)) (da.mono (.of g6))⟩
theorem not_in_take' {α : Type} : ∀ {xs : List α} {i : Nat} {x : α}, xs.Nodup → xs[i]? = some x → x ∉ xs.take i
  | [], _, _, _, h, _ => by simp at h
  | y :: xs, 0, x, _, _, m => by simp at m
  | y :: xs, i + 1, x, nd, h, m => by
    have nd' := List.nodup_cons.mp nd
    have h : xs[i]? = some x := by simpa using h
    rcases List.mem_cons.mp m with rfl | m
    · exact nd'.1 (List.mem_of_getElem? h)
    · exact not_in_take' nd'.2 h m
/-- {x: f(x) for x in d if p(x)}, d's keys texts -/
theorem ev_dcK {es : List (Key × D)} {xs : List Str} {f : Str → D} {ρ' : Str → List Slot} {g : TG} {tk tv : TE} {vs : List Nat} (hp : EvP td ρ μ es) (hk : es.map (·.1) = xs.map (Sum.inr : Str → Key)) (nd : xs.Nodup) (hw : ∀ i ∈ vs, ρ[i]? = some .un) (hsz : xs.length ≤ 1000000)
    (hg : ∀ F' a, EvG F' g vs ρ μ (.str a) (ρ' a)) (hek : ∀ F' a, a ∈ xs → Ev F' tk (ρ' a) μ (.dat (.str a)) μ) (he : ∀ F' a, a ∈ xs → Ev F' tv (ρ' a) μ (.dat (f a)) μ) :
    Ev F (tLE (tDc (iKeys td) g tYes tk tv vs)) ρ μ (.dat (.dic (xs.map fun x => ((.inr x : Key), f x)))) μ :=
  ev_lock hp fun F' as σ H q kvs o L => by
    have e : (es.map fun e => keyD e.1) = xs.map D.str := by
      have : (es.map fun e => keyD e.1) = (es.map (·.1)).map keyD := by rw [List.map_map]; rfl
      rw [this, hk, List.map_map]
      rfl
    have hi := evi_keys_at (ρ := ρ) L
    rw [e] at hi
    have h := ev_dc_at (tk := tk) (tv := tv) (tt := tYes) (g := g) (vs := vs) xs.length hi (by rw [List.length_map]) hw hsz (fun _ => μ) rfl (fun i => (xs.take i).map fun x => ((.inr x : Key), f x)) rfl fun i d hd F'' => by
      rw [List.getElem?_map] at hd
      obtain ⟨x, ex, rfl⟩ := Option.map_eq_some_iff.mp hd
      have hx := List.mem_of_getElem? ex
      refine ⟨ρ' x, hg F'' x, true, μ, evt_yes, ?_⟩
      rw [if_pos rfl]
      refine ⟨.inr x, f x, μ, hek F'' x hx, he F'' x hx, ?_⟩
      show (xs.take (i + 1)).map _ = putD ((xs.take i).map fun x => ((.inr x : Key), f x)) (.inr x) (f x)
      rw [List.take_add_one, ex, Option.toList_some, List.map_append]
      unfold putD
      rw [if_neg]
      · rfl
      · intro q
        obtain ⟨z, hz, q⟩ := List.any_eq_true.mp q
        obtain ⟨y, hy, rfl⟩ := List.mem_map.mp hz
        have q : (Sum.inr y : Key) = Sum.inr x := of_decide_eq_true q
        cases q
        exact not_in_take' nd ex hy
    rw [List.take_length] at h
    exact h
end
end Dl
end
section
set_option Elab.async false
set_option maxRecDepth 100000
set_option linter.all false
namespace Dl
open PySem L2
/-! ### sorted(xs, key=len), xs lists -/
def byLen (es : List (Addr × Nat)) : List (Addr × Nat) := es.mergeSort fun a b => decide (a.2 ≤ b.2)
def tSortLen (K : PySem.W.Frag) (t : TA) : TE := fun σ H Q => t σ H fun vs H1 => ∃ (a : Addr) (es : List (Addr × Nat)), vs = [.ref a] ∧ SqL K H1 a (es.map fun e => V.ref e.1) ∧ (∀ e ∈ es, ∃ ys, SqL K H1 e.1 ys ∧ ys.length = e.2) ∧ ∀ l, H1 l = none → Q (.ref l) (upd H1 l (.lst ((byLen es).map fun e => V.ref e.1)))
theorem each_refs : ∀ {es : List (Addr × Nat)} {us : List Value}, Vals (es.map fun e => V.ref e.1) us → PySem.W.EachIs (fun v (x : Addr × Nat) => v = Value.ref x.1) us es
  | [], _, .nil => .nil
  | x :: xs, _, .cons h r => .cons h (each_refs r)
theorem refs_each : ∀ {es : List (Addr × Nat)} {us : List Value}, PySem.W.EachIs (fun v (x : Addr × Nat) => v = Value.ref x.1) us es → Vals (es.map fun e => V.ref e.1) us
  | _, _, .nil => .nil
  | _, _, .cons h r => .cons h (refs_each r)
section
variable {X : Cx}
theorem sortLen_run {pins : List (Addr × Obj)} {s : Shared} {σ : St} {H : Hp} {Q : VK} (hu : X.A.units + 64 < cLine) (I : Inv X pins σ H s) {a : Addr} {es : List (Addr × Nat)} (hs : SqL X.K H a (es.map fun e => V.ref e.1)) (hl : ∀ e ∈ es, ∃ ys, SqL X.K H e.1 ys ∧ ys.length = e.2)
    (q : ∀ l, H l = none → Q (.ref l) (upd H l (.lst ((byLen es).map fun e => V.ref e.1)))) :
    wpAny (model X.prog X.w) X.A (call (.builtin "sorted") [.ref a] [(Str.ofString "key", .builtin "len")]) (EP X pins σ Q) X.xe s := by
  obtain ⟨its, rv, hli, hz⟩ := I.list hs
  refine PySem.W.sorted_key_data (b := false) (f := .builtin "len") (R := fun v (x : Addr × Nat) => v = Value.ref x.1) (bs := es) (fun e => PyData.int e.2) hli.isList (each_refs rv) ?_ ?_ (by simpa using hz) ?_ (PyProof.Rows.ksk_s1 _ _) (fun _ => PyProof.Rows.ksk_l1 _ _) (fun x => rfl) ?_ ?_
  · intro d hd d' hd'
    obtain ⟨x, _, rfl⟩ := List.mem_map.mp hd
    obtain ⟨y, _, rfl⟩ := List.mem_map.mp hd'
    simp only [PySem.W.alike]
  · right
    intro d hd
    obtain ⟨x, _, rfl⟩ := List.mem_map.mp hd
    exact ⟨by simp, fun _ => by simp⟩
  · intro x hx
    have : (PyData.int x.2).depth = 0 := by simp [PyData.depth]
    omega
  · rintro v x rfl hx h tk hk
    obtain ⟨ys, hy, ey⟩ := hl x hx
    have I1 : Inv X pins σ H { s with heap := h, toks := tk } := I.kept hk
    obtain ⟨its2, rv2, hli2, hz2⟩ := I1.list hy
    have hlen := rv2.length
    have hn := line63
    refine Calls.call_len_list (s := { s with heap := h, toks := tk }) hli2.isList (by simp only [List.size_toArray] <;> omega) ⟨h, tk + 1 + 1, rfl, fun b o e => e, ?_⟩
    rw [List.size_toArray, ← hlen, ey]
    exact Reads.int _ _
  · intro out c h' tk hk nk hD hlen eo
    have e : es.mergeSort (PySem.W.dataLe false fun e : Addr × Nat => PyData.int e.2) = byLen es := by
      unfold byLen
      rw [show (fun e : Addr × Nat => PyData.int e.2) = fun e => PyData.int ((fun e : Addr × Nat => (e.2 : Int)) e) from rfl, PySem.W.dataLe_int]
      congr 1
      funext x y
      simp
    rw [e] at eo
    have np : H (s.heap.objs.size + 1) = none := I.hok.fresh (Nat.le_succ _)
    refine ⟨.ref _, upd H (s.heap.objs.size + 1) (.lst ((byLen es).map fun e => V.ref e.1)), I.laid (t' := tk) hk (Nat.le_succ _) ⟨?_, out, c, refs_each eo, hD⟩, rfl, q _ np⟩
    rw [List.length_map, byLen, List.length_mergeSort]
    simpa using hz
theorem pe_sortedLen {p p2 kpos pos : Pos} {e : Expr} {t : TA} (hu : X.A.units + 64 < cLine) (hg : Gl X "sorted") (hm : X.mg "sorted" = none) (hg2 : Gl X "len") (hm2 : X.mg "len" = none) (he : PA X [e] t)
    (h1 : backTo pos (starEach [e] X.env) = (false, eval e X.env) :: backTo pos (starEach [] X.env) := by rfl) (hpl : (backTo pos (starEach [e] X.env)).any (·.1) = false := by rfl) :
    PE X (.Call (.Name "sorted" p) [e] [⟨some "key", .Name "len" p2, kpos⟩] pos) (tSortLen X.K t) := by
  refine ⟨fun pins s σ H Q I h => ?_⟩
  refine wpAny_Call_Name_kw (ld_blt I hg hm (u := .builtin "sorted") (by decide +kernel) ?_)
  refine PyProof.Rows.callWith_kw (thn (he.run pos pins s σ H _ I h) fun us s1 ⟨vs, H1, I1, r1, q1⟩ => ?_) h1 hpl (by rfl) (by rfl)
  obtain ⟨a, es, rfl, hs, hl, q⟩ := q1
  obtain rfl := Vals.ref1 r1
  show wpAny _ _ (evalAll [do let v ← eval (.Name "len" p2) X.env; standAt pos; pure v]) _ _ s1
  refine wpAny_evalAll_cons (wpAny_bind (ld_blt I1 hg2 hm2 (u := .builtin "len") (by decide +kernel) (wpAny_bind (wpAny_standAt (wpAny_pure ?_)))))
  exact wpAny_evalAll_nil (sortLen_run hu I1 hs hl q)
end
section
variable {F : Fm} {ρ : List Slot} {μ μ1 : List Cell} {t : TA}
def sortLL (xss : List (List D)) : List (List D) := xss.mergeSort fun a b => decide (a.length ≤ b.length)
/-- lists of data, as addresses and lengths -/
theorem dats_lists {z : List Addr} {H : Hp} {K : PySem.W.Frag} : ∀ {xss : List (List D)} {vs : List V}, Dats (Hide z H) vs (xss.map .lst) → ∃ ps : List Addr, vs = ps.map V.ref ∧ ps.length = xss.length ∧ ∀ e ∈ ps.zip xss, ∃ ys, H e.1 = some (.lst ys) ∧ e.1 ∉ z ∧ Dats (Hide z H) ys e.2
  | [], _, .nil => ⟨[], rfl, rfl, fun e h => by cases h⟩
  | xs :: xss, _, .cons x r => by
    obtain ⟨p, ys, rfl, e, dd⟩ := dat_lst x
    obtain ⟨ps, rfl, hl, h⟩ := dats_lists (K := K) r
    refine ⟨p :: ps, rfl, by rw [List.length_cons, List.length_cons, hl], fun g hg => ?_⟩
    rcases List.mem_cons.mp hg with rfl | hg
    · exact ⟨ys, hide_get e, (hide_some e).1, dd⟩
    · exact h g hg
theorem dats_ofz {z : List Addr} {H : Hp} : ∀ {es : List (Addr × List D)}, (∀ e ∈ es, ∃ ys, H e.1 = some (.lst ys) ∧ e.1 ∉ z ∧ Dats (Hide z H) ys e.2) → Dats (Hide z H) (es.map fun e => V.ref e.1) (es.map fun e => D.lst e.2)
  | [], _ => .nil
  | e :: es, h => by
    obtain ⟨ys, h1, h2, h3⟩ := h e List.mem_cons_self
    exact .cons (.lst (by rw [hide_out h2]; exact h1) h3) (dats_ofz fun g hg => h g (List.mem_cons_of_mem _ hg))
theorem ev_sortLen {K : PySem.W.Frag} {xss : List (List D)} (h : EvA F t ρ μ [.dat (.lst (xss.map .lst))] μ1) : Ev F (tSortLen K t) ρ μ (.dat (.lst ((sortLL xss).map .lst))) μ1 := fun as σ H R Q k =>
  h as σ H R _ fun vs as1 H1 R1 p1 a1 x1 => by
    obtain ⟨v, rfl⟩ : ∃ v, vs = [v] := by
      cases x1 with
      | cons _ t => cases t; exact ⟨_, rfl⟩
    cases x1 with
    | cons x1 _ =>
      obtain ⟨p, vs, rfl, e, q⟩ := dat_lst (dat_slot x1)
      obtain ⟨ps, rfl, hl, hz⟩ := dats_lists (K := K) q
      let zs : List (Addr × List D) := ps.zip xss
      have h1 : zs.map (·.1) = ps := List.map_fst_zip (by omega)
      have h2 : zs.map (·.2) = xss := List.map_snd_zip (by omega)
      have hle : ∀ xs : List (Addr × List D), byLen (xs.map fun e => (e.1, e.2.length)) = (xs.mergeSort fun a b => decide (a.2.length ≤ b.2.length)).map fun e => (e.1, e.2.length) := fun xs => by
        unfold byLen
        exact (List.map_mergeSort (r := fun a b : Addr × List D => decide (a.2.length ≤ b.2.length)) (s := fun a b : Addr × Nat => decide (a.2 ≤ b.2)) (f := fun e : Addr × List D => (e.1, e.2.length)) (l := xs) fun a _ b _ => rfl).symm
      have hr : (zs.mergeSort fun a b => decide (a.2.length ≤ b.2.length)).map (·.2) = sortLL xss := by
        unfold sortLL
        rw [← h2]
        exact List.map_mergeSort (r := fun a b : Addr × List D => decide (a.2.length ≤ b.2.length)) (s := fun a b : List D => decide (a.length ≤ b.length)) (f := fun e : Addr × List D => e.2) fun a _ b _ => rfl
      refine ⟨p, zs.map fun e => (e.1, e.2.length), rfl, ?_, ?_, fun l nl => ?_⟩
      · have e0 : (zs.map fun e => (e.1, e.2.length)).map (fun e => V.ref e.1) = ps.map V.ref := by
          rw [List.map_map, ← h1, List.map_map]
          rfl
        rw [e0]
        exact SqL.of (hide_get e)
      · intro e he
        obtain ⟨g, hg, rfl⟩ := List.mem_map.mp he
        obtain ⟨ys, e1, e2, e3⟩ := hz g hg
        exact ⟨ys, SqL.of e1, e3.len⟩
      · rw [hle, List.map_map]
        refine k _ as1 _ (R1.same (same_upd nl)) p1 (a1.trans (.same (same_upd nl))) ⟨_, rfl, .lst (hide_new R1.live nl) ?_⟩
        rw [← hr, List.map_map]
        refine dats_ofz fun g hg => ?_
        have hg' : g ∈ zs := (List.mergeSort_perm _ _).mem_iff.mp hg
        obtain ⟨ys, e1, e2, e3⟩ := hz g hg'
        exact ⟨ys, by rw [upd_ne (fun q => by rw [← q, e1] at nl; cases nl)]; exact e1, e2, Dats.upd nl e3⟩
end
end Dl
end
section
set_option Elab.async false
set_option maxRecDepth 100000
set_option maxHeartbeats 4000000
set_option linter.all false
namespace Dl
open PySem L2
/-! ### what a book works out once -/
def placesN (cs b : List Str) : List Nat := (cs.zipIdx.filter fun p => decide (p.1 ∈ b)).map (·.2)
def encN (ns : List Nat) : D := .tup (ns.map fun n => .int (n : Nat))
def encT (xs : List Str) : D := .tup (xs.map .str)
def rowD (e : Str × List Str) : D := encL (e.1 :: e.2)
inductive R_places : List D → D → Prop
  | mk (cs b : List Str) (h : cs.length ≤ 1000) : R_places [encL cs, encL b] (encN (placesN cs b))
def around (gs : List (Str × List Str)) (b : List Str) : List Str := (gs.filter fun e => decide (b.length < e.2.length) && decide (b.headD "" ∈ e.2)).map (·.1)
inductive R_with : List D → D → Prop
  | mk (gs : List (Str × List Str)) (b : List Str) (hb : b ≠ []) (h : gs.length ≤ 2000) : R_with [.lst (gs.map rowD), encL b] (encT (around gs b))
theorem at_zero {d : D} {ds : List D} : atI (d :: ds) (0 : Int) = some d := by
  rw [show (0 : Int) = ((0 : Nat) : Int) from rfl, atI_nat (v := d) rfl]
theorem cut_tail {x : Str} {xs : List Str} : cutD ((x :: xs).map D.str) (some 1) none = xs.map .str := by
  unfold cutD
  rw [show (some (1 : Int)) = some ((1 : Nat) : Int) from rfl, HT.sIx_none, HT.sIx_nat, List.length_map, List.length_cons, List.map_cons]
  rw [show min 1 (xs.length + 1) = 1 by omega, List.drop_succ_cons, List.drop_zero]
  exact List.take_of_length_le (by rw [List.length_map]; omega)
section
variable {P : Program} {w : World} {K : PySem.W.Frag} {mg : Str → Option Value} {base : Heap}
abbrev s_places : Stmt := top 23
abbrev N_places : List Str := ["counters", "members", "place", "counter"]
theorem sc_places : FnScope N_places ["counters", "members"] (C8.fnScope s_places) := C8.fnScope_by (by decide +kernel)
theorem ok_places {f : Addr} {fd : FuncData} (Fd : C8.Def K mg "places_among" s_places f fd) (b : Binds K fd ["counters", "members"] []) (T : Bi mg) : C8.Cal P w K mg base 1 "places_among" (spF R_places) [] := by
  refine C8.cal0 Fd b .nil sc_places (len_F fun ds d h => by cases h; rfl) fun cdv A outer s H vs Q E hr h => ?_
  refine ⟨_, (pss_one (ps_ret (pe_callTy (k_tuple rfl) (by rfl) T.b_tuple (by decide +kernel) (pa_cons (pe_lc (own := [("place", 2), ("counter", 3)]) (g := gTup K 2 (gCons (gName 2) (gCons (gName 3) gNil))) rfl sc_places.nd (pi_enum (by rfl) T.b_enumerate (pa_cons (pv 0) pa_nil)) (blkOk_by (N := N_places) (sc := C8.fnScope s_places) (by decide +kernel))
    (fun _ _ _ _ _ => pg_tup rfl (pgs_cons (pg_name (i := 2) sc_places.nd rfl (by first | exact Or.inl rfl | exact Or.inr rfl)) (pgs_cons (pg_name (i := 3) sc_places.nd rfl (by first | exact Or.inl rfl | exact Or.inr rfl)) pgs_nil))) (fun _ _ _ _ _ => (pts_one (pt_cmpR (k_in rfl) (pv 3) (pv 1) (by rfl)))) (fun _ _ _ _ _ => (pv 2))) pa_nil)))), run_F h ?_⟩
  rintro _ _ ⟨cs, b, hcs⟩ F -
  have hs1000 : (1000 : Nat) ≤ sizeLine := by decide
  refine ⟨_, .rt [], ws_ret (ev_eqd (ev_cb (ds := [.lst ((cs.zipIdx.filter fun p => decide (p.1 ∈ b)).map fun p => .int (p.2 : Nat))]) (cd_tuple (.inl rfl)) (eva_cons (ev_lcF (α := Str × Nat) (enc := fun p => .tup [.int (p.2 : Nat), .str p.1]) (xs := cs.zipIdx) (p := fun p => decide (p.1 ∈ b)) (f := fun p => .int (p.2 : Nat)) (ev_enumS (ev_var 0 rfl (by simp))) ?a1 ?a2 (fun F' a => evg_tup2 2 3) (fun F' a _ => evt_test (ev_op opd_inS (ev_var 3 rfl (by simp)) (ev_var 1 rfl (by simp)))) (fun F' a ha _ => ev_var 2 rfl (by simp))) eva_nil)) ?a3)⟩
  case a1 =>
    intro i hi
    rcases List.mem_cons.mp hi with rfl | hi
    · rfl
    · cases List.mem_singleton.mp hi
      rfl
  case a2 => rw [List.length_zipIdx]; omega
  case a3 =>
    unfold encN placesN
    rw [List.map_map]
    rfl
abbrev s_with : Stmt := top 25
abbrev N_with : List Str := ["groups", "members", "group"]
theorem sc_with : FnScope N_with ["groups", "members"] (C8.fnScope s_with) := C8.fnScope_by (by decide +kernel)
theorem ok_with {f : Addr} {fd : FuncData} (Fd : C8.Def K mg "groups_with" s_with f fd) (b : Binds K fd ["groups", "members"] []) (T : Bi mg) : C8.Cal P w K mg base 1 "groups_with" (spF R_with) [] := by
  refine C8.cal0 Fd b .nil sc_with (len_F fun ds d h => by cases h; rfl) fun cdv A outer s H vs Q E hr h => ?_
  refine ⟨_, (pss_one (ps_ret (pe_callTy (k_tuple rfl) (by rfl) T.b_tuple (by decide +kernel) (pa_cons (pe_lc (own := [("group", 2)]) (g := gName 2) rfl sc_with.nd (pi_list (pv 0)) (blkOk_by (N := N_with) (sc := C8.fnScope s_with) (by decide +kernel))
    (fun _ _ _ _ _ => (pg_name (i := 2) sc_with.nd rfl (by first | exact Or.inl rfl | exact Or.inr rfl)))
    (fun _ _ _ _ _ => (pts_one (PW.pt (pw_and (pt_cmpR op_gt (pe_callB (k_len rfl) (by rfl) T.b_len PySem.boot_len (pa_cons (pv 2) pa_nil)) (pe_op op_add (pe_callB (k_len rfl) (by rfl) T.b_len PySem.boot_len (pa_cons (pv 1) pa_nil)) pe_int) (nomark _)) (pw_and1 (pt_cmpR (k_in rfl) (pe_ix (k_ixL rfl) (pv 1) pe_int (fun _ _ => rfl)) (pe_slice (k_slL rfl) (pv 2) (po_some pe_int) po_none) (by rfl)))))))
    (fun _ _ _ _ _ => (pe_ix (k_ixL rfl) (pv 2) pe_int (fun _ _ => rfl)))) pa_nil)))), run_F h ?_⟩
  rintro _ _ ⟨gs, b, hb, hgs⟩ F -
  have hs1000 : (1000 : Nat) ≤ sizeLine := by decide
  obtain ⟨c, r, rfl⟩ : ∃ c r, b = c :: r := by
    cases b with
    | nil => exact absurd rfl hb
    | cons c r => exact ⟨c, r, rfl⟩
  refine ⟨_, .rt [], ws_ret (ev_eqd (ev_cb (ds := [.lst ((gs.filter fun e => decide ((c :: r).length < e.2.length) && decide (c ∈ e.2)).map fun e => .str e.1)]) (cd_tuple (.inl rfl)) (eva_cons (ev_lcF (α := Str × List Str) (enc := rowD) (xs := gs) (p := fun e => decide ((c :: r).length < e.2.length) && decide (c ∈ e.2)) (f := fun e => .str e.1) (evi_list (ev_var 0 rfl (by simp))) ?a1 (by omega) (fun F' a => evg_name 2)
    (fun F' a _ => ev_tmu (μ2 := []) (ev_teq (evt_and (evt_test (ev_op opd_gt (ev_cb (ds := [rowD a]) cd_len (eva_cons (ev_var 2 rfl (by simp)) eva_nil)) (ev_op opd_add (ev_cb (ds := [encL (c :: r)]) cd_len (eva_cons (ev_var 1 rfl (by simp)) eva_nil)) (ev_int _)))) fun _ => evt_test (ev_op (opd_inS (xs := a.2)) (ev_op (opd_ixL (at_zero (d := .str c) (ds := r.map .str))) (ev_var 1 rfl (by simp)) (ev_int _)) (ev_eqd (ev_sliceL (ev_var 2 rfl (by simp)) (evo_some (ev_int _)) evo_none) (congrArg D.lst cut_tail)))) ?a2) (by split <;> rfl))
    (fun F' a ha _ => ev_op (opd_ixL (at_zero (d := .str a.1) (ds := a.2.map .str))) (ev_var 2 rfl (by simp)) (ev_int _))) eva_nil)) ?a3)⟩
  case a1 =>
    intro i hi
    cases List.mem_singleton.mp hi
    rfl
  case a2 =>
    congr 1
    rw [List.length_map, List.length_map, List.length_cons (as := a.2)]
    exact decide_eq_decide.mpr (by omega)
  case a3 =>
    unfold encT around
    rw [List.map_map]
    rfl
/-! ### outer_groups -/
def groupRows (ms : List (Str × List Str)) : List (Str × List Str) := ((ms.map (·.1)).filter fun n => decide (1 < (lookG ms n).length)).map fun n => (n, lookG ms n)
def sortR (rows : List (Str × List Str)) : List (Str × List Str) := rows.mergeSort fun a b => decide (a.2.length ≤ b.2.length)
def aroundT (ms : List (Str × List Str)) : List (Key × D) := (ms.map (·.1)).map fun n => ((.inr n : Key), encT (around (sortR (groupRows ms)) (lookG ms n)))
inductive R_outer : List D → D → Prop
  | mk (ms : List (Str × List Str)) (nd : (ms.map (·.1)).Nodup) (hl : ms.length ≤ 2000) (he : ∀ e ∈ ms, e.2.length ≤ 1000) (h0 : ∀ e ∈ ms, e.2 ≠ []) : R_outer [.dic (setsD ms)] (.dic (aroundT ms))
theorem sortR_rows (rows : List (Str × List Str)) : sortLL (rows.map fun e => (e.1 :: e.2).map D.str) = (sortR rows).map fun e => (e.1 :: e.2).map D.str := by
  unfold sortLL sortR
  exact (List.map_mergeSort (r := fun a b : Str × List Str => decide (a.2.length ≤ b.2.length)) (s := fun a b : List D => decide (a.length ≤ b.length)) (f := fun e : Str × List Str => (e.1 :: e.2).map D.str) (l := rows) fun a _ b _ => by
    rw [List.length_map, List.length_map, List.length_cons, List.length_cons]
    exact decide_eq_decide.mpr (by omega)).symm
abbrev s_outer : Stmt := top 24
abbrev N_outer : List Str := ["members", "groups", "name"]
theorem sc_outer : FnScope N_outer ["members"] (C8.fnScope s_outer) := C8.fnScope_by (by decide +kernel)
theorem ok_outer {f : Addr} {fd : FuncData} (Fd : C8.Def K mg "outer_groups" s_outer f fd) (b : Binds K fd ["members"] []) (T : Bi mg) (c_with : C8.Cal P w K mg base 1 "groups_with" (spF R_with) []) : C8.Cal P w K mg base 2 "outer_groups" (spF R_outer) [] := by
  refine C8.cal0 Fd b .nil sc_outer (len_F fun ds d h => by cases h; rfl) fun cdv A outer s H vs Q E hr h => ?_
  refine ⟨_, (pss_cons (ps_set (i := 1) sc_outer.nd rfl (by first | exact Or.inl rfl | exact Or.inr rfl) (pe_sortedLen (lt_u64 (k := 1) hr.un) (by rfl) T.b_sorted (by rfl) T.b_len (pa_cons (pe_le (pe_lc (own := [("name", 2)]) (g := gName 2) rfl sc_outer.nd (pi_keys (pv 0)) (blkOk_by (N := N_outer) (sc := C8.fnScope s_outer) (by decide +kernel))
      (fun _ _ _ _ _ => (pg_name (i := 2) sc_outer.nd rfl (by first | exact Or.inl rfl | exact Or.inr rfl)))
      (fun _ _ _ _ _ => (pts_one (pt_cmpR op_gt (pe_callB (k_len rfl) (by rfl) T.b_len PySem.boot_len (pa_cons (pe_dget (lt_units (k := 1) hr.un) (pv 0) (pv 2) (fun _ _ => rfl)) pa_nil)) pe_int (nomark _))))
      (fun _ _ _ _ _ => (pe_op op_cat (pe_lst (pa_cons (pv 2) pa_nil)) (pe_dget (lt_units (k := 1) hr.un) (pv 0) (pv 2) (fun _ _ => rfl)))))) pa_nil)))
    (pss_one (ps_ret (pe_le (pe_dc (own := [("name", 2)]) (g := gName 2) (tt := tYes) rfl sc_outer.nd (pi_keys (pv 0)) (blkOk_by (N := N_outer) (sc := C8.fnScope s_outer) (by decide +kernel)) (fun _ _ _ _ _ => (pg_name (i := 2) sc_outer.nd rfl (by first | exact Or.inl rfl | exact Or.inr rfl))) (fun _ _ _ _ _ => pts_nil) (fun _ _ _ _ _ => (pv 2))
      (fun _ _ _ _ _ => (C8.pe_c c_with hr (by decide) rfl (pa_cons (pv 1) (pa_cons (pe_dget (lt_units (k := 1) hr.un) (pv 0) (pv 2) (fun _ _ => rfl)) pa_nil))))))))), run_F h ?_⟩
  rintro _ _ ⟨ms, nd, hl, he, h0⟩ F -
  have hs1000 : (1000 : Nat) < sizeLine := by decide
  refine ⟨_, .rt [], ?_⟩
  refine ws_seq (ρ1 := [.dat (.dic (setsD ms)), .dat (.lst ((sortR (groupRows ms)).map rowD)), .un]) (μ1 := []) (ws_set 1 (ev_eqd (ev_sortLen (xss := (groupRows ms).map fun e => (e.1 :: e.2).map D.str) (eva_cons (ev_eqd (ev_lcK (xs := ms) (p := fun n => decide (1 < (lookG ms n).length)) (f := fun n => encL (n :: lookG ms n)) (evp_var 0 rfl) ?b1 ?b2 (by omega) (fun F' a => evg_name 2) (fun F' n hn => ev_teq (evt_test (ev_op opd_gt (ev_cb (ds := [encL (lookG ms n)]) cd_len (eva_cons (ev_dget (k := .inr n) (look_of_mem hn) (ev_var 0 rfl (by simp)) (ev_var 2 rfl (by simp))) eva_nil)) (ev_int _))) ?b3)
      (fun F' n hn _ => ev_eqd (ev_op (opd_cat (xs := [.str n]) (ys := (lookG ms n).map .str) ?b4) (ev_lst (ds := [.str n]) (eva_cons (ev_var 2 rfl (by simp)) eva_nil) (Nat.le_trans (show (1 : Nat) ≤ 3 by decide) (by decide))) (ev_dget (k := .inr n) (look_of_mem hn) (ev_var 0 rfl (by simp)) (ev_var 2 rfl (by simp)))) rfl)) ?b5) eva_nil)) ?b6)) ?_
  case b1 => exact setsD_keysR ms
  case b2 =>
    intro i hi
    cases List.mem_singleton.mp hi
    rfl
  case b3 =>
    rw [List.length_map]
    exact decide_eq_decide.mpr (by omega)
  case b4 =>
    have := lookG_len he n
    rw [List.length_map]
    show 1 + _ ≤ _
    omega
  case b5 =>
    unfold groupRows
    rw [List.map_map, List.map_map]
    rfl
  case b6 =>
    rw [sortR_rows, List.map_map]
    rfl
  refine ws_ret (ev_eqd (ev_dcK (xs := ms.map (·.1)) (f := fun n => encT (around (sortR (groupRows ms)) (lookG ms n))) (evp_var 0 rfl) ?c1 nd ?c2 (by rw [List.length_map]; omega) (fun F' a => evg_name 2) (fun F' a _ => ev_var 2 rfl (by simp)) (fun F' n hn => ev_callF (ds := [.lst ((sortR (groupRows ms)).map rowD), encL (lookG ms n)]) (R_with.mk _ _ ?c3 ?c4) (eva_cons (ev_var 1 rfl (by simp)) (eva_cons (ev_dget (k := .inr n) (look_of_mem hn) (ev_var 0 rfl (by simp)) (ev_var 2 rfl (by simp))) eva_nil)))) rfl)
  case c1 => rw [setsD_keysR, List.map_map]; rfl
  case c2 =>
    intro i hi
    cases List.mem_singleton.mp hi
    rfl
  case c3 => exact h0 _ (lookG_mem hn)
  case c4 =>
    unfold sortR groupRows
    rw [List.length_mergeSort, List.length_map]
    refine Nat.le_trans (List.length_filter_le _ _) ?_
    rw [List.length_map]
    exact hl
end
end Dl
end
section
set_option Elab.async false
set_option maxRecDepth 100000
set_option maxHeartbeats 4000000
set_option linter.all false
namespace Dl
open PySem L2 ClX
/-! ### the book -/
/-- the table of members: counters first, then the groups in the sequence of their names -/
def bookT (cs : List Str) (gs : List (Str × List Str)) : List (Str × List Str) := (cs.map fun c => (c, [c])) ++ (sortS (gs.map (·.1))).map fun n => (n, lookG (gs.map (sortG cs)) n)
def placesT (cs : List Str) (ms : List (Str × List Str)) : List (Key × D) := (ms.map (·.1)).map fun n => ((.inr n : Key), encN (placesN cs (lookG ms n)))
def bkF (cs : List Str) (ms : List (Str × List Str)) : List (Str × D) := [("_counters", encL cs), ("_members", .dic (setsD ms)), ("_places", .dic (placesT cs ms)), ("_groups_around", .dic (aroundT ms))]
def bookF (cs : List Str) (gs : List (Str × List Str)) : List (Str × D) := bkF cs (bookT cs gs)
theorem table_len (cs : List Str) (gs : List (Str × List Str)) : (bookT cs gs).length = cs.length + gs.length := by
  unfold bookT
  rw [List.length_append, List.length_map, List.length_map, sortS_len', List.length_map]
theorem table_fst (cs : List Str) (gs : List (Str × List Str)) : (bookT cs gs).map (·.1) = cs ++ sortS (gs.map (·.1)) := by
  unfold bookT
  rw [List.map_append, List.map_map, List.map_map]
  have h1 : ∀ xs : List Str, xs.map ((fun x : Str × List Str => x.1) ∘ fun c => (c, [c])) = xs := fun xs => List.map_id xs
  have h2 : ∀ xs : List Str, xs.map ((fun x : Str × List Str => x.1) ∘ fun n => (n, lookG (gs.map (sortG cs)) n)) = xs := fun xs => List.map_id xs
  rw [h1, h2]
theorem table_nodup {cs : List Str} {gs : List (Str × List Str)} (h : groupsOk cs gs) (nd : cs.Nodup) : ((bookT cs gs).map (·.1)).Nodup := by
  rw [table_fst]
  have hp : (sortS (gs.map (·.1))).Perm (gs.map (·.1)) := List.mergeSort_perm _ _
  refine List.nodup_append.mpr ⟨nd, (hp.nodup_iff).mpr h.nd, fun a ha b hb e => ?_⟩
  subst e
  obtain ⟨x, hx, q⟩ := List.mem_map.mp (hp.mem_iff.mp hb)
  exact h.out x hx (by rw [show x.1 = a from q]; exact ha)
theorem table_each {cs : List Str} {gs : List (Str × List Str)} (h : groupsOk cs gs) (h5 : cs.length ≤ 5) : ∀ e ∈ bookT cs gs, e.2.length ≤ 5 ∧ e.2 ≠ [] := by
  intro e he
  unfold bookT at he
  rcases List.mem_append.mp he with he | he
  · obtain ⟨c, _, rfl⟩ := List.mem_map.mp he
    exact ⟨by simp, by simp⟩
  · obtain ⟨n, hn, rfl⟩ := List.mem_map.mp he
    have hn : n ∈ gs.map (·.1) := (List.mergeSort_perm _ _).mem_iff.mp hn
    have hG : n ∈ (gs.map (sortG cs)).map (·.1) := by
      rw [List.map_map]
      exact hn
    obtain ⟨g, hg, q⟩ := List.mem_map.mp (lookG_mem hG)
    have e2 : cs.filter (fun c => decide (c ∈ g.2)) = lookG (gs.map (sortG cs)) n := congrArg Prod.snd q
    show (lookG _ n).length ≤ 5 ∧ lookG _ n ≠ []
    rw [← e2]
    refine ⟨Nat.le_trans (List.length_filter_le _ _) h5, fun q => ?_⟩
    have hk := h.each g hg
    obtain ⟨m, hm⟩ : ∃ m, m ∈ g.2 := by
      cases hg2 : g.2 with
      | nil => have := hk.two; rw [hg2] at this; simp at this
      | cons m r => exact ⟨m, List.mem_cons_self⟩
    have := List.filter_eq_nil_iff.mp q m (hk.ms m hm).2
    simp [hm] at this
inductive R_init : List D → List (Str × D) → Prop
  | mk (cs : List Str) (gs : List (Str × List Str)) (h : groupsOk cs gs) (h1 : 1 ≤ cs.length) (h5 : cs.length ≤ 5) (nd : cs.Nodup) (nm : ∀ x ∈ cs, nameOk x = true) : R_init [encL cs, .lst (gs.map groupD)] (bookF cs gs)
section
variable {P : Program} {w : World} {K : PySem.W.Frag} {mg : Str → Option Value} {base : Heap}
abbrev s_init : Stmt := inCls 21 1
abbrev N_init : List Str := ["self", "counters", "groups", "grouped", "name", "counter"]
theorem sc_init : FnScope N_init ["self", "counters", "groups"] (C8.fnScope s_init) := C8.fnScope_by (by decide +kernel)
theorem ev_cval {F : Fm} {ρ : List Slot} {μ : List Cell} {K : PySem.W.Frag} {C : Addr} {mc : Value} {f : Str} {i : Int} {u : Value} (cr : CRead K C mc) (cv : CVal K C mc f (.int i) u) : Ev F (tCVal K (tC (.ref C)) f) ρ μ (.dat (.int i)) μ := fun as σ H R Q k =>
  ⟨C, mc, .int i, u, rfl, cr, cv, k _ as H R (List.prefix_refl _) (.refl _ _) ⟨_, rfl, .int i⟩⟩
/-- the class's constant -/
structure Bk (K : PySem.W.Frag) (mg : Str → Option Value) (C : Addr) : Prop where
  cls : Cls K C
  nm : mg "Book" = some (.ref C)
  most : ∃ mc u, CRead K C mc ∧ CVal K C mc "MOST_COUNTERS" (.int 5) u
  f1 : NoAttr K C "_counters"
  f2 : NoAttr K C "_members"
  f3 : NoAttr K C "_places"
  f4 : NoAttr K C "_groups_around"
theorem ok_init {C f : Addr} {fd : FuncData} (B : Bk K mg C) (M : Mk K C f) (Fd : C8.Fun K "__init__" "Book.__init__" s_init f fd) {ds : List Value} (b : Binds K fd ["self", "counters", "groups"] ds) {dvs : List V} (dv : Vals dvs ds) (T : Bi mg)
    (c_is_list : C8.Cal P w K mg base 1 "is_list" (spF R_is_list) []) (c_check_counters : C8.Cal P w K mg base 2 "check_counters" (spF R_check_counters) []) (c_mog : C8.Cal P w K mg base 3 "members_of_groups" (spF R_mog) []) (c_places : C8.Cal P w K mg base 1 "places_among" (spF R_places) []) (c_outer : C8.Cal P w K mg base 2 "outer_groups" (spF R_outer) []) : C8.Mak P w K mg base 4 "Book" C (spMk C R_init) dvs := by
  refine C8.mak0 M B.nm Fd b dv sc_init (fun vs H Q E h => by obtain ⟨x, dx, ws, z, ds, fs, rfl, _, _, _, _, x, r, _⟩ := h; cases r; rw [List.length_cons, x.len]; rfl) fun cdv A outer s H vs Q E hr h => ?_
  refine ⟨_, (pss_cons (ps_if (PW.pt (pw_or (pt_not (pt_val (C8.pe_c c_is_list hr (by decide) rfl (pa_cons (pv 1) pa_nil)))) (pw_or1 (pt_not (pt_chain op_le op_le pe_int (pe_callB (k_len rfl) (by rfl) T.b_len PySem.boot_len (pa_cons (pv 1) pa_nil)) (pe_cval (pe_glob (v := .ref C) (by rfl) B.nm rfl)))))))
      (pss_one ps_never) pss_nil)
    (pss_cons (ps_expr (C8.pe_c c_check_counters hr (by decide) rfl (pa_cons (pv 1) pa_nil)))
    (pss_cons (ps_if (pt_not (pt_val (C8.pe_c c_is_list hr (by decide) rfl (pa_cons (pv 2) pa_nil))))
      (pss_one ps_never) pss_nil)
    (pss_cons (ps_set (i := 3) sc_init.nd rfl (by first | exact Or.inl rfl | exact Or.inr rfl) (C8.pe_c c_mog hr (by decide) rfl (pa_cons (pv 1) (pa_cons (pv 2) pa_nil))))
    (pss_cons (ps_fld (pv 0) (pe_callTy call_list_of (by rfl) T.b_list (by decide +kernel) (pa_cons (pv 1) pa_nil)) (by rfl))
    (pss_cons (ps_fld (pv 0) (pe_dc (own := [("counter", 5)]) (g := gName 5) (tt := tYes) rfl sc_init.nd (pi_list (pv 1)) (blkOk_by (N := N_init) (sc := C8.fnScope s_init) (by decide +kernel)) (fun _ _ _ _ _ => (pg_name (i := 5) sc_init.nd rfl (by first | exact Or.inl rfl | exact Or.inr rfl))) (fun _ _ _ _ _ => pts_nil) (fun _ _ _ _ _ => (pv 5)) (fun _ _ _ _ _ => (pe_lst (pa_cons (pv 5) pa_nil)))) (by rfl))
    (pss_cons (ps_for PassesOwn.never rfl (pi_list (pe_sortedDStr rfl (lt_u64 (k := 3) hr.un) (by rfl) T.b_sorted (pa_cons (pv 3) pa_nil) (pk_cons (pe_bltn (u := .type "str") (by rfl) T.b_str (by decide +kernel) rfl) pk_nil))) (pg_name (i := 4) sc_init.nd rfl (by first | exact Or.inl rfl | exact Or.inr rfl))
      (pss_one (ps_asg (pe_dget (lt_units (k := 3) hr.un) (pv 3) (pv 4) (fun _ _ => rfl)) (pg_sub (pe_fld (pv 0) (by rfl)) (pv 4) (set_dict (lt_units (k := 3) hr.un))))))
    (pss_cons (ps_fld (pv 0) (pe_le (pe_dc (own := [("name", 4)]) (g := gName 4) (tt := tYes) (tk := tVar 4) (tv := tCall (spF R_places) [] C8.E0 (tCons (tFld K (tVar 0) "_counters") (tCons (tDGet (tFld K (tVar 0) "_members") (tVar 4)) tNil))) rfl sc_init.nd (pi_keys (pe_fld (pv 0) (by rfl))) (blkOk_by (N := N_init) (sc := C8.fnScope s_init) (by decide +kernel)) (fun _ _ _ _ _ => (pg_name (i := 4) sc_init.nd rfl (by first | exact Or.inl rfl | exact Or.inr rfl))) (fun _ _ _ _ _ => pts_nil) (fun _ _ _ _ _ => (pv 4))
      (fun _ _ _ _ _ => by
        refine C8.pe_c c_places hr (by decide) rfl ?_
        refine pa_cons ?_ (pa_cons ?_ pa_nil)
        · exact k_fld rfl (pv 0)
        · refine pe_dget (lt_units (k := 3) hr.un) ?_ ?_ (fun _ _ => rfl)
          · exact k_fld rfl (pv 0)
          · exact pv 4))) (by rfl))
    (pss_one (ps_fld (pv 0) (C8.pe_c c_outer hr (by decide) rfl (pa_cons (pe_fld (pv 0) (by rfl)) pa_nil)) (by rfl))))))))))), run_M h ?_⟩
  rintro _ _ ⟨cs, gs, hg, h1, h5, nd, nm⟩ F dx -
  obtain ⟨mc, u, cr, cv⟩ := B.most
  have lm : ∀ xs : List Str, (((xs.map D.str).length : Nat) : Int) = (xs.length : Nat) := fun xs => by rw [List.length_map]
  have hs1000 : (1000 : Nat) < sizeLine := by decide
  have hgl := hg.gl
  let G : List (Str × List Str) := gs.map (sortG cs)
  let ks : List Str := gs.map (·.1)
  have hGk : G.map (·.1) = ks := by
    show (gs.map (sortG cs)).map (·.1) = gs.map (·.1)
    rw [List.map_map]
    rfl
  refine ⟨[.cell 0, .dat (encL cs), .dat (.lst (gs.map groupD)), .dat (.dic (setsD G)), .un, .un], [.dead], ?_⟩
  show Ws F _ [.cell 0, .dat (encL cs), .dat (.lst (gs.map groupD)), .un, .un, .un] _ _
  refine ws_seq (ws_if (b := false) (ev_tmu (μ2 := [.ins C dx []]) (ev_teq (evt_or (evt_not (evt_val (ev_callF (ds := [encL cs]) (R_is_list.lst _) (eva_cons (ev_var 1 rfl (by simp)) eva_nil)))) fun h => (evt_not (evt_test (ev_chain opd_le opd_le (ev_int _) (ev_cb (ds := [encL cs]) cd_len (eva_cons (ev_var 1 rfl (by simp)) eva_nil)) (ev_cval cr cv))))) ?a1) rfl) (fun e => by cases e) (fun _ => ws_next)) ?_
  case a1 =>
    rw [lm, decide_eq_true (by omega), decide_eq_true (by omega)]
    rfl
  refine ws_seq (ws_drop (ev_callF (ds := [encL cs]) (R_check_counters.mk cs (by omega) nm nd) (eva_cons (ev_var 1 rfl (by simp)) eva_nil))) ?_
  refine ws_seq (ws_if (b := false) (ev_teq (evt_not (evt_val (ev_callF (ds := [.lst (gs.map groupD)]) (R_is_list.lst _) (eva_cons (ev_var 2 rfl (by simp)) eva_nil)))) rfl) (fun e => by cases e) (fun _ => ws_next)) ?_
  refine ws_seq (ws_set 3 (ev_callF (ds := [encL cs, .lst (gs.map groupD)]) (R_mog.mk cs gs hg) (eva_cons (ev_var 1 rfl (by simp)) (eva_cons (ev_var 2 rfl (by simp)) eva_nil)))) ?_
  refine ws_seq (ρ1 := [.cell 0, .dat (encL cs), .dat (.lst (gs.map groupD)), .dat (.dic (setsD G)), .un, .un]) (μ1 := [.ins C dx [("_counters", .dat (encL cs))]]) (ws_eqm (ws_fldC (fs := []) B.cls B.f1 (ev_cb (ds := [encL cs]) (cd_list (.inl rfl)) (eva_cons (ev_var 1 rfl (by simp)) eva_nil)) (ev_var 0 rfl (by simp)) rfl (by simp)) rfl) ?_
  let base : List (Str × List Str) := cs.map fun c => (c, [c])
  have hkeys : base.map (·.1) = cs := by
    show (cs.map fun c => (c, [c])).map (·.1) = cs
    rw [List.map_map]
    exact List.map_id cs
  have htake : base.take cs.length = base := List.take_of_length_le (by show (cs.map _).length ≤ _; rw [List.length_map]; exact Nat.le_refl _)
  refine ws_seq (ρ1 := [.cell 0, .dat (encL cs), .dat (.lst (gs.map groupD)), .dat (.dic (setsD G)), .un, .un]) (μ1 := [.ins C dx [("_counters", .dat (encL cs)), ("_members", .cell 1)], .dic (setsD base)]) (ws_eqm (ws_fldC (k := 0) (fs := [("_counters", .dat (encL cs))]) B.cls B.f2 (ev_dcO cs.length (evi_list (xs := cs.map .str) (ev_var 1 rfl (by simp))) (List.length_map _) ?b1 (by omega) (fun _ => [.ins C dx [("_counters", .dat (encL cs))]]) rfl (fun i => setsD (base.take i)) rfl ?b2 1 rfl) (ev_var 0 rfl (by simp)) rfl (by simp)) ?b3) ?_
  case b1 =>
    intro i hi
    cases List.mem_singleton.mp hi
    rfl
  case b2 =>
    intro i d hd F'
    rw [List.getElem?_map] at hd
    obtain ⟨x, ex, rfl⟩ := Option.map_eq_some_iff.mp hd
    have hnew : x ∉ (base.take i).map (·.1) := by
      rw [List.map_take, hkeys]
      exact not_in_take nd ex
    refine ⟨_, evg_name 5, true, _, evt_yes, ?_⟩
    rw [if_pos rfl]
    refine ⟨.inr x, encL [x], _, ev_var 5 rfl (by simp [keyD]), ev_lst (ds := [.str x]) (eva_cons (ev_var 5 rfl (by simp)) eva_nil) (Nat.le_trans (show (1 : Nat) ≤ 3 by decide) (by decide)), ?_⟩
    rw [setsD_put hnew, List.take_add_one]
    have : base[i]? = some (x, [x]) := by
      show (cs.map fun c => (c, [c]))[i]? = _
      rw [List.getElem?_map, ex]
      rfl
    rw [this]
    rfl
  case b3 =>
    rw [htake]
    rfl
  let names : List Str := sortS ks
  have hperm : names.Perm ks := List.mergeSort_perm _ _
  have hnn : names.Nodup := (hperm.nodup_iff).mpr hg.nd
  have hnl : names.length ≤ 1000 := by rw [hperm.length_eq]; show (gs.map _).length ≤ _; rw [List.length_map]; exact hgl
  have hfin : names.take names.length = names := List.take_length
  let S : Nat → List Slot × List Cell := fun j => ([.cell 0, .dat (encL cs), .dat (.lst (gs.map groupD)), .dat (.dic (setsD G)), .un, .un], [.ins C dx [("_counters", .dat (encL cs)), ("_members", .cell 1)], .dic (setsD (base ++ (names.take j).map fun n => (n, lookG G n)))])
  have hT : base ++ (names.take names.length).map (fun n => (n, lookG G n)) = bookT cs gs := by
    rw [hfin]
    rfl
  refine ws_seq (ρ1 := (S names.length).1) (μ1 := [.ins C dx [("_counters", .dat (encL cs)), ("_members", .dat (.dic (setsD (bookT cs gs))))], .dead]) (ws_eqm (ws_freeFo (f := "_members") (k := 0) (m := 1) (μ1 := (S names.length).2) (ρ1 := (S names.length).1) ?loop (by decide) rfl rfl rfl) (by rw [← hT]; rfl)) ?rest
  case rest =>
    let T : List (Str × List Str) := bookT cs gs
    have hTn : (T.map (·.1)).Nodup := table_nodup hg nd
    have hTe := table_each hg h5
    have hTl : T.length ≤ 1005 := by
      show (bookT cs gs).length ≤ _
      rw [table_len]
      omega
    show Ws F _ [.cell 0, .dat (encL cs), .dat (.lst (gs.map groupD)), .dat (.dic (setsD G)), .un, .un] [.ins C dx [("_counters", .dat (encL cs)), ("_members", .dat (.dic (setsD T)))], .dead] _
    refine ws_seq (ρ1 := [.cell 0, .dat (encL cs), .dat (.lst (gs.map groupD)), .dat (.dic (setsD G)), .un, .un]) (μ1 := [.ins C dx [("_counters", .dat (encL cs)), ("_members", .dat (.dic (setsD T))), ("_places", .dat (.dic (placesT cs T)))], .dead]) (ws_eqm (ws_fldC (k := 0) (fs := [("_counters", .dat (encL cs)), ("_members", .dat (.dic (setsD T)))]) B.cls B.f3 (ev_dcK (xs := T.map (·.1)) (f := fun n => encN (placesN cs (lookG T n))) (evp_fldC 0 B.cls B.f2 rfl rfl rfl) ?c1 hTn ?c2 ?c3 (fun F' a => evg_name 4) (fun F' a _ => ev_var 4 rfl (by simp))
      (fun F' n hn => ev_callF (ds := [encL cs, encL (lookG T n)]) (R_places.mk cs _ (by omega)) (eva_cons (ev_fldC (s := .dat (encL cs)) B.cls B.f1 (ev_var 0 rfl (by simp)) rfl rfl) (eva_cons (ev_dget (k := .inr n) (look_of_mem hn) (ev_fldC (s := .dat (.dic (setsD T))) B.cls B.f2 (ev_var 0 rfl (by simp)) rfl rfl) (ev_var 4 rfl (by simp))) eva_nil)))) (ev_var 0 rfl (by simp)) rfl (by simp)) rfl) ?_
    case c1 => rw [setsD_keysR, List.map_map]; rfl
    case c2 =>
      intro i hi
      cases List.mem_singleton.mp hi
      rfl
    case c3 => rw [List.length_map]; omega
    exact ws_eqm (ws_fldC (k := 0) (fs := [("_counters", .dat (encL cs)), ("_members", .dat (.dic (setsD T))), ("_places", .dat (.dic (placesT cs T)))]) B.cls B.f4 (ev_callF (ds := [.dic (setsD T)]) (R_outer.mk T hTn (by omega) (fun e he => by have := (hTe e he).1; omega) (fun e he => (hTe e he).2)) (eva_cons (ev_fldC (s := .dat (.dic (setsD T))) B.cls B.f2 (ev_var 0 rfl (by simp)) rfl rfl) eva_nil)) (ev_var 0 rfl (by simp)) rfl (by simp)) rfl
  have hsk0 : ∀ ss : List (Str × List Str), (setsD ss).map (·.1) = (ss.map (·.1)).map Sum.inr := fun ss => by
    unfold setsD
    rw [List.map_map, List.map_map]
    rfl
  have hsk : (setsD G).map (·.1) = ks.map Sum.inr := (hsk0 G).trans (congrArg (List.map Sum.inr) hGk)
  have hkl : ks.length ≤ 1000 := by show (gs.map _).length ≤ _; rw [List.length_map]; exact hgl
  refine ws_forN names.length [4] S (evi_list (xs := names.map .str) (ev_sortedD hsk hkl (ev_var 3 rfl (by simp)))) (by show S 0 = _; simp [S]) (List.length_map _) ?turn
  case turn =>
    intro j d hd
    rw [List.getElem?_map] at hd
    obtain ⟨n, en, rfl⟩ := Option.map_eq_some_iff.mp hd
    have hj : j < names.length := (List.getElem?_eq_some_iff.mp en).1
    have hn : n ∈ ks := hperm.mem_iff.mp (List.mem_of_getElem? en)
    have hnG : n ∈ G.map (·.1) := by rw [hGk]; exact hn
    have hlook : lookD (setsD G) (.inr n) = some (encL (lookG G n)) := by
      rw [look_sets]
      unfold lookG
      obtain ⟨e, he, q⟩ := List.mem_map.mp hnG
      cases hf : G.find? fun e => decide (e.1 = n) with
      | none => exact absurd (List.find?_eq_none.mp hf e he) (by simpa using q)
      | some x => rfl
    have hnc : n ∉ cs := by
      obtain ⟨g, hg', q⟩ := List.mem_map.mp hn
      have := hg.out g hg'
      rw [← q]
      exact this
    have hnew : n ∉ (base ++ (names.take j).map fun n => (n, lookG G n)).map (·.1) := by
      rw [List.map_append, hkeys, List.map_map]
      intro q
      rcases List.mem_append.mp q with q | q
      · exact hnc q
      · obtain ⟨m, hm, q⟩ := List.mem_map.mp q
        have q : m = n := q
        subst q
        exact not_in_take hnn en hm
    have es : S (j + 1) = ([.cell 0, .dat (encL cs), .dat (.lst (gs.map groupD)), .dat (.dic (setsD G)), .un, .un], [.ins C dx [("_counters", .dat (encL cs)), ("_members", .cell 1)], .dic (putD (setsD (base ++ (names.take j).map fun n => (n, lookG G n))) (.inr n) (encL (lookG G n)))]) := by
      rw [setsD_put hnew]
      show (_, [_, Cell.dic (setsD (base ++ (names.take (j + 1)).map fun n => (n, lookG G n)))]) = _
      rw [List.take_add_one, en, Option.toList_some, List.map_append, List.append_assoc]
      rfl
    have eS : S j = ([.cell 0, .dat (encL cs), .dat (.lst (gs.map groupD)), .dat (.dic (setsD G)), .un, .un], [.ins C dx [("_counters", .dat (encL cs)), ("_members", .cell 1)], .dic (setsD (base ++ (names.take j).map fun n => (n, lookG G n)))]) := rfl
    rw [es, eS]
    dsimp only
    clear es eS hT
    clear_value S
    have hz : (setsD (base ++ (names.take j).map fun n => (n, lookG G n))).length < sizeLine := by
      unfold setsD
      rw [List.length_map, List.length_append, List.length_map, List.length_map, List.length_take]
      exact Nat.lt_of_le_of_lt (show _ ≤ (2000 : Nat) by omega) (by decide)
    generalize setsD (base ++ (names.take j).map fun n => (n, lookG G n)) = acc at hz ⊢
    refine ⟨_, evg_name 4, .inl (ws_weak (ρ1 := [.cell 0, .dat (encL cs), .dat (.lst (gs.map groupD)), .dat (.dic (setsD G)), .dat (.str n), .un]) ?_ ?_)⟩
    rotate_left
    · repeat first | exact .nil | refine .cons (.inl rfl) ?_ | refine .cons (.inr rfl) ?_
    exact ws_eqm (ws_asg (ev_dget (k := .inr n) hlook (ev_var 3 rfl (by simp)) (ev_var 4 rfl (by simp))) (wg_subD (k := .inr n) (es := acc) (n := 1) (ev_fldC (s := .cell 1) B.cls B.f2 (ev_var 0 rfl (by simp)) rfl rfl) (ev_var 4 rfl (by simp)) rfl hz)) rfl
end
end Dl
end
section
set_option Elab.async false
set_option maxRecDepth 100000
set_option linter.all false
namespace Dl
open PySem L2
theorem DatF.less {h z : List Addr} {H : Hp} (s : ∀ b, b ∈ z → b ∈ h) : ∀ {fvs : List (Str × V)} {fs : List (Str × D)}, DatF (Hide h H) fvs fs → DatF (Hide z H) fvs fs
  | _, _, .nil => .nil
  | _, _, .cons x r => .cons (hide_less x s) (DatF.less s r)
/-- C(..) -/
theorem ev_make {F : Fm} {ρ : List Slot} {μ μ1 : List Cell} {t : TA} {C : Addr} {RR : List D → List (Str × D) → Prop} {E : XK} {ds : List D} {fs : List (Str × D)} (ha : EvA F t ρ μ (ds.map .dat) μ1) (hr : RR ds fs) : Ev F (tMake C (spMk C RR) [] E t) ρ μ (.dat (.ins C fs)) μ1 := fun as σ H R Q k =>
  ha as σ H R _ fun vs as1 H1 R1 p1 a1 x1 => fun x dx nx ndx hne => by
    have xs := dats_slots x1
    have xz : x ∉ hid μ1 as1 ++ F.z := fun m => R1.live x m nx
    have dz : dx ∉ hid μ1 as1 ++ F.z := fun m => R1.live dx m ndx
    have keep : ∀ b o, H1 b = some o → (upd (upd H1 dx (.own x)) x (.ins C dx [])) b = some o := fun b o e => by
      have h1 : b ≠ x := fun q => by subst q; rw [nx] at e; cases e
      have h2 : b ≠ dx := fun q => by subst q; rw [ndx] at e; cases e
      rw [upd_ne h1, upd_ne h2]
      exact e
    refine ⟨x, dx, vs, hid μ1 as1 ++ F.z, ds, fs, by rw [List.append_nil], xz, fun a m q => ?_, upd_same, by rw [upd_ne hne]; exact upd_same, ?_, hr, fun H' fvs hx hk df => ⟨rfl, ?_⟩⟩
    · cases h : H1 a with
      | none => exact R1.live a m h
      | some o => rw [keep a o h] at q; cases q
    · refine xs.mono (.of fun b o e => ?_)
      obtain ⟨n, e⟩ := hide_some e
      rw [hide_out]
      · exact keep b o e
      · intro m
        rcases List.mem_cons.mp m with rfl | m
        · rw [nx] at e; cases e
        · rcases List.mem_cons.mp m with rfl | m
          · rw [ndx] at e; cases e
          · exact n m
    · have sm : Same H1 H' := fun b o e => by
        have h1 : b ≠ x := fun q => by subst q; rw [nx] at e; cases e
        have h2 : b ≠ dx := fun q => by subst q; rw [ndx] at e; cases e
        exact hk b o h1 h2 (keep b o e)
      exact k _ as1 H' (R1.same sm) p1 (a1.trans (.same sm)) ⟨_, rfl, .ins (by rw [hide_out xz]; exact hx) (df.less fun b m => List.mem_cons_of_mem _ (List.mem_cons_of_mem _ m))⟩
end Dl
end
section
set_option Elab.async false
set_option maxRecDepth 100000
set_option maxHeartbeats 4000000
set_option linter.all false
namespace Dl
open PySem L2 ClX
/-! ### the law's book -/
inductive R_book (C : Addr) : List D → D → Prop
  | mk (M : Mdl) (h : M.Lam) : R_book C [mdlD M] (.ins C (bookF M.sgl M.sets))
section
variable {P : Program} {w : World} {K : PySem.W.Frag} {mg : Str → Option Value} {base : Heap}
abbrev s_law_book : Stmt := top 46
theorem sc_law_book : FnScope ["_law_model", "_law_label"] ["_law_model"] (C8.fnScope s_law_book) := C8.fnScope_by (by decide +kernel)
theorem ok_book {C f : Addr} {fd : FuncData} (Fd : C8.Def K mg "_law_book" s_law_book f fd) (b : Binds K fd ["_law_model"] []) (T : Bi mg) (c_book : C8.Mak P w K mg base 4 "Book" C (spMk C R_init) []) : C8.Cal P w K mg base 6 "_law_book" (spF (R_book C)) [] := by
  refine C8.cal0 Fd b .nil sc_law_book (len_F fun ds d h => by cases h; rfl) fun cdv A outer s H vs Q E hr h => ?_
  refine ⟨_, (pss_one (ps_ret (C8.pe_mk c_book hr (by decide) rfl (pa_cons (pe_dget (lt_units (k := 5) hr.un) (pv 0) pe_str (fun _ _ => rfl)) (pa_cons (pe_le (pe_lc (own := [("_law_label", 1)]) (g := gName 1) (tt := tYes) (te := tTup (tCons (tVar 1) (tCons (tDGet (tDGet (tVar 0) (tC (.str "sets"))) (tVar 1)) tNil))) rfl sc_law_book.nd (pi_keys (pe_dget (lt_units (k := 5) hr.un) (pv 0) pe_str (fun _ _ => rfl))) (blkOk_by (N := ["_law_model", "_law_label"]) (sc := C8.fnScope s_law_book) (by decide +kernel)) (fun _ _ _ _ _ => (pg_name (i := 1) sc_law_book.nd rfl (by first | exact Or.inl rfl | exact Or.inr rfl))) (fun _ _ _ _ _ => pts_nil) (fun _ _ _ _ _ => by
      refine pe_tup (pa_cons (pv 1) (pa_cons ?_ pa_nil))
      refine pe_dget (lt_units (k := 5) hr.un) ?_ ?_ (fun _ _ => rfl)
      · exact pe_dget (lt_units (k := 5) hr.un) (pv 0) pe_str (fun _ _ => rfl)
      · exact pv 1))) pa_nil))))), run_F h ?_⟩
  rintro _ _ ⟨M, hM⟩ F -
  refine ⟨_, .rt [], ?_⟩
  have hk : (setsD M.sets).map (·.1) = M.sets.map fun e => (.inr e.1 : Key) := by
    unfold setsD
    rw [List.map_map]
    rfl
  have hlook : ∀ l ∈ M.sets.map (·.1), ∃ b, (l, b) ∈ M.sets ∧ lookD (setsD M.sets) (.inr l) = some (encL b) ∧ lookG M.sets l = b := by
    intro l hl
    obtain ⟨⟨l', b'⟩, he, q⟩ := List.mem_map.mp hl
    have q : l' = l := q
    subst q
    obtain ⟨i, hi⟩ := List.mem_iff_getElem?.mp he
    have h1 := look_nodup hM.keys hi
    refine ⟨b', he, h1, ?_⟩
    rw [look_sets] at h1
    unfold lookG
    cases hf : M.sets.find? fun e => decide (e.1 = l') with
    | none => rw [hf] at h1; cases h1
    | some x =>
      rw [hf] at h1
      have h2 : encL x.2 = encL b' := Option.some.inj h1
      have h3 : x.2.map D.str = b'.map D.str := D.lst.inj h2
      have inj : ∀ {xs ys : List Str}, xs.map D.str = ys.map D.str → xs = ys := fun {xs} => by
        induction xs with
        | nil => intro ys q; cases ys with
          | nil => rfl
          | cons y ys => cases q
        | cons x xs ih => intro ys q; cases ys with
          | nil => cases q
          | cons y ys =>
            rw [List.map_cons, List.map_cons] at q
            obtain ⟨q1, q2⟩ := List.cons.inj q
            cases q1
            rw [ih q2]
      exact inj h3
  have hgs : (M.sets.map (·.1)).map (fun l => groupD (l, lookG M.sets l)) = M.sets.map groupD := by
    rw [List.map_map]
    refine List.map_congr_left fun e he => ?_
    obtain ⟨b, hb, _, q⟩ := hlook e.1 (List.mem_map.mpr ⟨e, he, rfl⟩)
    have : b = e.2 := by
      obtain ⟨i, hi⟩ := List.mem_iff_getElem?.mp he
      obtain ⟨j, hj⟩ := List.mem_iff_getElem?.mp hb
      have l1 : (M.sets.map (·.1))[i]? = some e.1 := by rw [List.getElem?_map, hi]; rfl
      have l2 : (M.sets.map (·.1))[j]? = some e.1 := by rw [List.getElem?_map, hj]; rfl
      have hlt : i < (M.sets.map (·.1)).length := (List.getElem?_eq_some_iff.mp l1).1
      have := (List.getElem?_inj hlt hM.keys).mp (l1.trans l2.symm)
      subst this
      rw [hi] at hj
      exact (congrArg Prod.snd (Option.some.inj hj)).symm
    show groupD (e.1, lookG M.sets e.1) = groupD e
    rw [q, this]
  refine ws_ret (ev_make (ds := [encL M.sgl, .lst (M.sets.map groupD)]) (eva_cons (ev_dget (look_sgl M) (ev_var 0 rfl (by simp)) (ev_str _)) (eva_cons (ev_eqd (ev_lcK (xs := M.sets) (p := fun _ => true) (f := fun l => groupD (l, lookG M.sets l)) (evp_get 0 rfl (look_set M)) hk ?a1 ?a2 (fun F' a => evg_name 1) (fun F' a _ => evt_yes) ?a3) ?a4) eva_nil)) (R_init.mk M.sgl M.sets (book_ok hM) hM.one hM.small.sgl hM.nd hM.nms))
  case a1 =>
    intro i hi
    cases List.mem_singleton.mp hi
    rfl
  case a2 => have := hM.small.sets; omega
  case a3 =>
    intro F' l hl _
    obtain ⟨b, hb, h1, h2⟩ := hlook l hl
    rw [h2]
    exact ev_tup (ds := [.str l, encL b]) (eva_cons (ev_var 1 rfl (by simp)) (eva_cons (ev_dget (k := .inr l) h1 (ev_dget (look_set M) (ev_var 0 rfl (by simp)) (ev_str _)) (ev_var 1 rfl (by simp [keyD]))) eva_nil)) (Nat.le_trans (show (2 : Nat) ≤ 3 by decide) (by decide))
  case a4 =>
    rw [List.filter_eq_self.mpr (fun _ _ => rfl), hgs]
end
end Dl
end
section
set_option Elab.async false
set_option maxRecDepth 100000
set_option maxHeartbeats 4000000
set_option linter.all false
namespace Dl
open PySem L2 ClX
/-! ### a book's methods -/
inductive R_names (C : Addr) : List D → D → Prop
  | mk (cs : List Str) (ms : List (Str × List Str)) : R_names C [.ins C (bkF cs ms)] (encL (ms.map (·.1)))
inductive R_has (C : Addr) : List D → D → Prop
  | mk (cs : List Str) (ms : List (Str × List Str)) (x : Str) : R_has C [.ins C (bkF cs ms), .str x] (.bl (lookD (setsD ms) (.inr x)).isSome)
section
variable {P : Program} {w : World} {K : PySem.W.Frag} {mg : Str → Option Value} {base : Heap}
abbrev s_names : Stmt := inCls 21 4
theorem sc_names : FnScope ["self"] ["self"] (C8.fnScope s_names) := C8.fnScope_by (by decide +kernel)
theorem ok_names {C f : Addr} {fd : FuncData} (B : Bk K mg C) (me : Meth K C "names" f) (Fd : C8.Fun K "names" "Book.names" s_names f fd) (b : Binds K fd ["self"] []) (T : Bi mg) : C8.Met P w K mg base 1 C "names" (spF (R_names C)) [] := by
  refine C8.met0 B.cls me Fd b sc_names (len_F fun ds d h => by cases h; rfl) fun cdv A outer s H vs Q E hr h => ?_
  refine ⟨_, (pss_one (ps_ret (pe_callTy (call_listD rfl) (by rfl) T.b_list (by decide +kernel) (pa_cons (pe_fld (pv 0) (by rfl)) pa_nil)))), run_F h ?_⟩
  rintro _ _ ⟨cs, ms⟩ F -
  exact ⟨_, .rt [], ws_ret (ev_eqd (ev_cb (ds := [.dic (setsD ms)]) cd_listD (eva_cons (ev_fld (fs := bkF cs ms) B.cls B.f2 rfl (ev_var 0 rfl (by simp))) eva_nil)) (congrArg D.lst (setsD_keys ms)))⟩
abbrev s_has : Stmt := inCls 21 10
theorem sc_has : FnScope ["self", "x"] ["self", "x"] (C8.fnScope s_has) := C8.fnScope_by (by decide +kernel)
theorem ok_has {C f : Addr} {fd : FuncData} (B : Bk K mg C) (me : Meth K C "__contains__" f) (Fd : C8.Fun K "__contains__" "Book.__contains__" s_has f fd) (b : Binds K fd ["self", "x"] []) (T : Bi mg) : C8.Met P w K mg base 1 C "__contains__" (spF (R_has C)) [] := by
  refine C8.met0 B.cls me Fd b sc_has (len_F fun ds d h => by cases h; rfl) fun cdv A outer s H vs Q E hr h => ?_
  refine ⟨_, (pss_one (ps_ret (pe_and (pe_callB (k_isi rfl) (by rfl) T.b_isinstance PyProof.Rows.boot_isinstance (pa_cons (pv 1) (pa_cons (pe_bltn (v := .ty "str") (u := .type "str") (by rfl) T.b_str (by decide +kernel) rfl) pa_nil))) (pe_one (pe_cmp (pc_din (lt_units (k := 0) hr.un) (pv 1) (pe_fld (pv 0) (by rfl)))))))), run_F h ?_⟩
  rintro _ _ ⟨cs, ms, x⟩ F -
  exact ⟨_, .rt [], ws_ret (ev_and (b := true) (ev_isi (t := "str") (b := true) rfl (by decide +kernel) (ev_var 1 rfl (by simp))) fun _ => ev_inD (k := .inr x) (ev_var 1 rfl (by simp)) (ev_fld (fs := bkF cs ms) B.cls B.f2 rfl (ev_var 0 rfl (by simp))))⟩
end
end Dl
end
section
set_option Elab.async false
set_option maxRecDepth 100000
set_option linter.all false
namespace PySem.W
open PySem PySem.Calls PyProof.Rows
theorem contains_own {M : Model} {A : Around} {K : Frag} {E : Value → Shared → Prop} {s : Shared} {x C f : Addr} {ox : Obj} {od : Option Obj} {u : Value} {Q : Bool → Shared → Prop} (X : K.In s.heap) (I : InstAt s.heap x ox C od) (hs : findIn K (.ref C) "__contains__" = some (some (.ref f))) (hf : isFn K (.ref f) = true)
    (h : wpAny M A (call (.ref f) [.ref x, u]) (fun v s' => wpAny M A (truthy v) Q E s') E s) : wpAny M A (contains (.ref x) u) Q E s := by
  unfold contains
  refine wpAny_holding ?_
  simp only [stdlibNamesSay?, specialOf, callSpecialUnlessNone?]
  refine wpAny_bind (wpAny_bind (I.type.here ((looks_findIn X hs).here ?_)))
  refine wpAny_ite ?_
  rw [if_neg (by simp)]
  refine wpAny_bind (wpAny_bind (wpAny_bind (I.type.here ((looks_findIn X hs).here ?_))))
  refine wpAny_holding (wpAny_bind ((bind_fn X _ (beq_iff_eq.mp hf)).here ?_))
  refine wpAny_ite ?_
  rw [if_neg (by simp)]
  exact wpAny_bind (wpAny_mono h (fun v s' q => wpAny_pure q) fun _ _ e => e)
end PySem.W
namespace Dl
open PySem L2
def rHas (C : Addr) (sp : Sp) (neg : Bool) : R2 := fun x y H Q => ∃ a dx fs, y = .ref a ∧ H a = some (.ins C dx fs) ∧ sp [.ref a, x] H (fun v H' => ∃ b, v = .bl b ∧ Q (.bl (if neg then !b else b)) H') C8.E0
section
variable {X : Cx} {C : Addr} {k j : Nat} {sp : Sp}
theorem has_run {Q : Bool → Shared → Prop} (c : C8.Met X.prog X.w X.K X.mg X.base k C "__contains__" sp []) (hr : Room k X.A) {pins : List (Addr × Obj)} {σ : St} {H : Hp} {s : Shared} {a dx : Addr} {fs : List (Str × V)} {x : V} {v : Value} {Q0 : Bool → Hp → Prop} (I : Inv X pins σ H s) (rx : RelV x v) (ha : H a = some (.ins C dx fs))
    (hsp : sp [.ref a, x] H (fun v H' => ∃ b, v = .bl b ∧ Q0 b H') C8.E0) (hQ : ∀ b s' H', Inv X pins σ H' s' → Q0 b H' → Q b s') : wpAny (model X.prog X.w) X.A (contains (.ref a) v) Q X.xe s := by
  obtain ⟨f, fd, ps, ds, cl, me, F, b, d⟩ := c.ex
  obtain ⟨mA, J, _⟩ := ins_get I.hok ha
  obtain ⟨od, J, _⟩ := J.look
  refine PySem.W.contains_own I.kIn J me.at_ me.fn ?_
  refine wpAny_mono (run_fn F hr b d C8.pass0 I (.cons (show RelV (.ref a) (.ref a) from rfl) (.cons rx .nil)) (by rw [List.append_nil]; exact hsp)) (fun w s' hq => ?_) fun _ _ e => e
  obtain ⟨v', H', I', r, hb⟩ := hq
  obtain ⟨bb, e, q⟩ := hb
  subst e
  cases (show w = Value.bool bb from r)
  exact wpAny_pure (hQ bb s' H' I' q)
theorem op_has (c : C8.Met X.prog X.w X.K X.mg X.base k C "__contains__" sp []) (hr : Room j X.A) (hk : k ≤ j) : OpR X (compareOp .In) (rHas C sp false) := by
  intro pins s σ H x y v u Q I rx ry h
  obtain ⟨a, dx, fs, rfl, ha, hsp⟩ := h
  cases ry
  exact wpAny_bind (has_run c (hr.mono hk) I rx ha (Q0 := fun b H' => Q (.bl b) H') hsp fun b s' H' I' q => wpAny_pure ⟨.bl b, H', I', rfl, q⟩)
theorem op_hasNot (c : C8.Met X.prog X.w X.K X.mg X.base k C "__contains__" sp []) (hr : Room j X.A) (hk : k ≤ j) : OpR X (compareOp .NotIn) (rHas C sp true) := by
  intro pins s σ H x y v u Q I rx ry h
  obtain ⟨a, dx, fs, rfl, ha, hsp⟩ := h
  cases ry
  exact wpAny_bind (has_run c (hr.mono hk) I rx ha (Q0 := fun b H' => Q (.bl (!b)) H') hsp fun b s' H' I' q => wpAny_pure ⟨.bl (!b), H', I', rfl, q⟩)
end
/-- x in o / x not in o, o an instance whose __contains__ only reads -/
theorem opd_has {C : Addr} {R : List D → D → Prop} {neg : Bool} {d : D} {fs : List (Str × D)} {b : Bool} (hr : R [.ins C fs, d] (.bl b)) : OpD (rHas C (spF R) neg) d (.ins C fs) (.bl (if neg then !b else b)) := fun z H v1 v2 lv x y Q k => by
  obtain ⟨p, dx, fvs, rfl, e, r⟩ := dat_ins y
  refine ⟨p, dx, fvs, rfl, hide_get e, z, [.ins C fs, d], .bl b, lv, .cons y (.cons x .nil), hr, fun v H' sm dv => ?_⟩
  cases dat_bl dv
  exact ⟨b, rfl, k _ H' sm (.bl _)⟩
end Dl
end
section
set_option Elab.async false
set_option maxRecDepth 100000
set_option maxHeartbeats 4000000
set_option linter.all false
namespace Dl
open PySem L2 ClX
inductive R_around (C : Addr) : List D → D → Prop
  | mk (cs : List Str) (ms : List (Str × List Str)) (n : Str) (h : n ∈ ms.map (·.1)) : R_around C [.ins C (bkF cs ms), .str n] (encT (around (sortR (groupRows ms)) (lookG ms n)))
inductive R_plc (C : Addr) : List D → D → Prop
  | mk (cs : List Str) (ms : List (Str × List Str)) (n : Str) (h : n ∈ ms.map (·.1)) : R_plc C [.ins C (bkF cs ms), .str n] (encN (placesN cs (lookG ms n)))
inductive R_known (C : Addr) : List D → D → Prop
  | mk (cs : List Str) (ms : List (Str × List Str)) (n : Str) (h : n ∈ ms.map (·.1)) : R_known C [.ins C (bkF cs ms), .str n] .non
theorem look_map (f : Str → D) {n : Str} : ∀ {xs : List Str}, n ∈ xs → lookD (xs.map fun x => ((.inr x : Key), f x)) (.inr n) = some (f n)
  | [], h => by cases h
  | x :: xs, h => by
    by_cases e : x = n
    · subst e
      simp [lookD, List.find?_cons]
    · have h : n ∈ xs := by
        rcases List.mem_cons.mp h with q | q
        · exact absurd q.symm e
        · exact q
      have := look_map f h
      rw [List.map_cons, lookD_neg (e := ((.inr x : Key), f x)) (by simpa using e)]
      exact this
section
variable {P : Program} {w : World} {K : PySem.W.Frag} {mg : Str → Option Value} {base : Heap}
abbrev s_around : Stmt := inCls 21 8
theorem sc_around : FnScope ["self", "name"] ["self", "name"] (C8.fnScope s_around) := C8.fnScope_by (by decide +kernel)
theorem ok_around {C f : Addr} {fd : FuncData} (B : Bk K mg C) (me : Meth K C "groups_around" f) (Fd : C8.Fun K "groups_around" "Book.groups_around" s_around f fd) (b : Binds K fd ["self", "name"] []) : C8.Met P w K mg base 1 C "groups_around" (spF (R_around C)) [] := by
  refine C8.met0 B.cls me Fd b sc_around (len_F fun ds d h => by cases h; rfl) fun cdv A outer s H vs Q E hr h => ?_
  refine ⟨_, (pss_one (ps_ret (pe_dget (lt_units (k := 0) hr.un) (pe_fld (pv 0) (by rfl)) (pv 1) (fun _ _ => rfl)))), run_F h ?_⟩
  rintro _ _ ⟨cs, ms, n, hn⟩ F -
  exact ⟨_, .rt [], ws_ret (ev_dget (k := .inr n) (look_map (fun n => encT (around (sortR (groupRows ms)) (lookG ms n))) hn) (ev_fld (fs := bkF cs ms) B.cls B.f4 rfl (ev_var 0 rfl (by simp))) (ev_var 1 rfl (by simp)))⟩
abbrev s_plc : Stmt := inCls 21 9
theorem sc_plc : FnScope ["self", "name"] ["self", "name"] (C8.fnScope s_plc) := C8.fnScope_by (by decide +kernel)
theorem ok_plc {C f : Addr} {fd : FuncData} (B : Bk K mg C) (me : Meth K C "places" f) (Fd : C8.Fun K "places" "Book.places" s_plc f fd) (b : Binds K fd ["self", "name"] []) : C8.Met P w K mg base 1 C "places" (spF (R_plc C)) [] := by
  refine C8.met0 B.cls me Fd b sc_plc (len_F fun ds d h => by cases h; rfl) fun cdv A outer s H vs Q E hr h => ?_
  refine ⟨_, (pss_one (ps_ret (pe_dget (lt_units (k := 0) hr.un) (pe_fld (pv 0) (by rfl)) (pv 1) (fun _ _ => rfl)))), run_F h ?_⟩
  rintro _ _ ⟨cs, ms, n, hn⟩ F -
  exact ⟨_, .rt [], ws_ret (ev_dget (k := .inr n) (look_map (fun n => encN (placesN cs (lookG ms n))) hn) (ev_fld (fs := bkF cs ms) B.cls B.f3 rfl (ev_var 0 rfl (by simp))) (ev_var 1 rfl (by simp)))⟩
abbrev s_known : Stmt := top 22
theorem sc_known : FnScope ["book", "name"] ["book", "name"] (C8.fnScope s_known) := C8.fnScope_by (by decide +kernel)
theorem ok_known {C f : Addr} {fd : FuncData} (Fd : C8.Def K mg "check_known" s_known f fd) (b : Binds K fd ["book", "name"] []) (m_has : C8.Met P w K mg base 1 C "__contains__" (spF (R_has C)) []) : C8.Cal P w K mg base 2 "check_known" (spF (R_known C)) [] := by
  refine C8.cal0 Fd b .nil sc_known (len_F fun ds d h => by cases h; rfl) fun cdv A outer s H vs Q E hr h => ?_
  refine ⟨_, (pss_one (ps_if (pt_cmpR (op_hasNot m_has hr (by decide)) (pv 1) (pv 0) (by rfl)) (pss_one ps_never) pss_nil)), run_F h ?_⟩
  rintro _ _ ⟨cs, ms, n, hn⟩ F -
  exact ⟨_, .nx _ [] rfl, ws_if (b := false) (ev_teq (evt_test (ev_op (opd_has (neg := true) (R_has.mk cs ms n)) (ev_var 1 rfl (by simp)) (ev_var 0 rfl (by simp)))) (by rw [look_of_mem hn]; rfl)) (fun e => by cases e) (fun _ => ws_next)⟩
end
end Dl
end
section
set_option Elab.async false
set_option maxRecDepth 100000
set_option linter.all false
namespace Dl
open PySem L2
section
variable {F : Fm} {ρ : List Slot} {μ μ1 : List Cell} {te tl : TE} {t : TA}
/-! ### a walk over a list or a tuple -/
def iLT (K : PySem.W.Frag) (tl : TE) : TI := fun σ H R => iList K tl σ H R ∨ iTup K tl σ H R
theorem pi_lt {X : Cx} {tg l : Expr} (h : PE X l tl) : PI X tg l (iLT X.K tl) :=
  ⟨fun pins s σ H R I hw => hw.elim (fun w => (pi_list h).run pins s σ H R I w) fun w => (pi_tup h).run pins s σ H R I w⟩
theorem evi_lt {K : PySem.W.Frag} {xs : List D} {dl : D} (hl : dl = .lst xs ∨ dl = .tup xs) (h : Ev F tl ρ μ (.dat dl) μ1) : EvI F (iLT K tl) ρ μ xs μ1 := fun as σ H R0 R k => by
  rcases hl with rfl | rfl
  · exact .inl (evi_list h as σ H R0 R k)
  · exact .inr (evi_tup h as σ H R0 R k)
/-! ### sum of whole numbers -/
theorem k_sum {X : Cx} {K : PySem.W.Frag} (e : X.K = K) (hc : X.calm = true) : CallR X (.builtin "sum") (rSum K) := by subst e; exact cr_sum hc
theorem cd_sum {K : PySem.W.Frag} {ns : List Int} : CallD (rSum K) [.lst (ns.map .int)] (.int ns.sum) := fun z H vs lv x Q k => by
  obtain ⟨v, rfl, dv⟩ := dats_1 x
  obtain ⟨p, ws, rfl, e, q⟩ := dat_lst dv
  have ev : ws = ns.map V.int := dats_flat q (by rw [List.map_map, List.map_map]; rfl)
  subst ev
  exact ⟨p, ns, rfl, SqL.of (hide_get e), k _ H (.refl _) (.int _)⟩
/-! ### a def that hands back a new list -/
def spN (R : List D → List D → Prop) : Sp := fun vs H Q _ => ∃ (z : List Addr) (ds es : List D), (∀ a, a ∈ z → H a ≠ none) ∧ Dats (Hide z H) vs ds ∧ R ds es ∧
  ∀ (p : Addr) (ws : List V) (H' : Hp), Same H H' → H p = none → H' p = some (.lst ws) → Dats (Hide (p :: z) H') ws es → Q (.ref p) H'
theorem Dats.less {h z : List Addr} {H : Hp} (s : ∀ b, b ∈ z → b ∈ h) : ∀ {vs : List V} {ds : List D}, Dats (Hide h H) vs ds → Dats (Hide z H) vs ds
  | _, _, .nil => .nil
  | _, _, .cons x r => .cons (hide_less x s) (Dats.less s r)
theorem run_N {N : List Str} {R : List D → List D → Prop} {t : TS} {vs : List V} {H : Hp} {Q : VK} {E : XK} (h : spN R vs H Q E) (hb : ∀ ds es, R ds es → ∀ F : Fm, F.ps = [] → ∃ k μ, μ[k]? = some (.lst es) ∧ Ws F t (slots0 N.length ds) [] (.rt (.cell k) μ)) :
    t { nx := fun _ H' => Q .non H', rt := Q } (L2.start N vs) H := by
  obtain ⟨z, ds, es, lv, x, hR, k⟩ := h
  let F : Fm := ⟨z, H, []⟩
  obtain ⟨n, μ, hn, hw⟩ := hb ds es hR F rfl
  have R0 : Rel F (slots0 N.length ds) [] [] (L2.start N vs) H := by
    refine { cells := .nil, slots := ?_, nd := List.nodup_nil, zl := lv, dj := fun a m => (List.not_mem_nil m).elim, base := fun b o _ e => e, pre := rfl, fresh := fun a m => (List.not_mem_nil m).elim, there := fun a m => (List.not_mem_nil m).elim }
    unfold slots0 L2.start
    rw [x.len]
    exact pd_app (slots_dats x) (pd_rep _)
  refine hw [] _ H R0 _ ?_
  intro ρ as' σ' H' v f sv
  obtain ⟨p, hp, e⟩ := sv
  cases e
  obtain ⟨q, hq, ws, el, xl⟩ := f.rel.cell hn
  rw [hp] at hq
  cases hq
  have hin : p ∈ hid μ as' := (hid_kill n hn rfl hp f.rel.nd p).mpr (.inl rfl)
  refine k p ws H' (fun b o e => f.adv.keep b o (by simp [hid]) e) ?_ el (Dats.less (fun b m => ?_) xl)
  · rcases f.rel.fresh p (List.mem_of_getElem? hp) with q | q
    · cases q
    · exact q
  · rcases List.mem_cons.mp m with rfl | m
    · exact List.mem_append_left _ hin
    · exact List.mem_append_right _ m
/-- a new cell, what it holds being as new -/
theorem Rel.snocD {as : List Addr} {σ : St} {H H' : Hp} (R : Rel F ρ μ as σ H) {c : Cell} {p : Addr} (np : H p = none) (s : Same H H') (lv : c.live = true) (new : CellOk (hid (μ ++ [c]) (as ++ [p]) ++ F.z) (as ++ [p]) H' c p) :
    Rel F ρ (μ ++ [c]) (as ++ [p]) σ H' ∧ Adv (hid μ as) (hid (μ ++ [c]) (as ++ [p])) H H' := by
  have eh : hid (μ ++ [c]) (as ++ [p]) = hid μ as ++ [p] := hid_snoc p lv (pd_len R.cells)
  have g : Adv (hid μ as) (hid (μ ++ [c]) (as ++ [p])) H H' := by
    rw [eh]
    refine ⟨fun b u _ e => s b u e, fun b m => ?_⟩
    rcases List.mem_append.mp m with m | m
    · exact .inl m
    · rw [List.mem_singleton] at m
      subst m
      exact .inr np
  have pz : p ∉ F.z := fun m => R.zl p m np
  have pas : p ∉ as := fun m => R.there p m np
  have hlen : F.ps.length ≤ as.length := by
    have := congrArg List.length R.pre
    rw [List.length_take] at this
    omega
  have nw := new
  have th : ∀ a ∈ as, H' a ≠ none := fun a m q => by
    cases h : H a with
    | none => exact R.there a m h
    | some u => rw [s a u h] at q; cases q
  refine ⟨{ cells := ?_, slots := ?_, nd := ?_, zl := fun a m q => ?_, dj := ?_, base := fun b u n e => s b u (R.base b u n e), pre := ?_, fresh := ?_, there := ?_ }, g⟩
  · exact pd_snoc nw (pd_imp R.cells fun x y q => CellOk.ext (List.prefix_append _ _) (CellOk.adv g (fun u e => s y u e) q))
  · exact pd_imp R.slots fun s o r => SlotOk.ext (List.prefix_append _ _) (SlotOk.adv g r)
  · rw [List.nodup_append]
    exact ⟨R.nd, by simp, fun a ha b hb q => pas (by rw [List.mem_singleton] at hb; subst hb; exact q ▸ ha)⟩
  · cases h : H a with
    | none => exact R.zl a m h
    | some u => rw [s a u h] at q; cases q
  · intro a m
    rcases List.mem_append.mp m with m | m
    · exact R.dj a m
    · rw [List.mem_singleton] at m
      subst m
      exact pz
  · rw [List.take_append_of_le_length hlen]
    exact R.pre
  · intro a m
    rcases List.mem_append.mp m with m | m
    · exact R.fresh a m
    · rw [List.mem_singleton] at m
      subst m
      by_cases q : a ∈ F.ps
      · exact .inl q
      · cases h : F.B a with
        | none => exact .inr rfl
        | some u => rw [R.base a u q h] at np; cases np
  · intro a m
    rcases List.mem_append.mp m with m | m
    · exact th a m
    · rw [List.mem_singleton] at m
      subst m
      exact nw.there lv
/-- its call: the caller's own list from then on -/
theorem ev_callN {RR : List D → List D → Prop} {ds es : List D} {E : XK} (hr : RR ds es) (ha : EvA F t ρ μ (ds.map .dat) μ1) (n : Nat) (hn : n = μ1.length) : Ev F (tCall (spN RR) [] E t) ρ μ (.cell n) (μ1 ++ [.lst es]) := fun as σ H R Q k =>
  ha as σ H R _ fun vs as1 H1 R1 p1 a1 x1 => ⟨_, ds, es, R1.live, by rw [List.append_nil]; exact dats_slots x1, hr, fun p ws H3 s np e x => by
    have pas : p ∉ as1 := fun m => R1.there p m np
    have ez : hid (μ1 ++ [.lst es]) (as1 ++ [p]) = hid μ1 as1 ++ [p] := hid_snoc p rfl (pd_len R1.cells)
    obtain ⟨R2, a2⟩ := R1.snocD (H' := H3) (c := .lst es) np s rfl ⟨ws, e, by
      rw [ez]
      exact Dats.less (fun b m => by
        rcases List.mem_append.mp m with m | m
        · rcases List.mem_append.mp m with m | m
          · exact List.mem_cons_of_mem _ (List.mem_append_left _ m)
          · rw [List.mem_singleton] at m
            subst m
            exact List.mem_cons_self
        · exact List.mem_cons_of_mem _ (List.mem_append_right _ m)) x⟩
    refine k _ _ _ R2 (p1.trans (List.prefix_append _ _)) (a1.trans a2) ⟨p, ?_, rfl⟩
    subst hn
    rw [pd_len R1.cells]
    simp⟩
/-- list(d) as the def's own -/
theorem ev_listDO {es : List (Key × D)} (ha : EvA F t ρ μ [.dat (.dic es)] μ1) (n : Nat) (hn : n = μ1.length) :
    Ev F (tCB (fun xs H Q => ∃ (a : Addr) (kvs : List (Key × V)), xs = [.ref a] ∧ Rd H a (.dK kvs) ∧ ∀ p, H p = none → Q (.ref p) (upd H p (.lst (kvs.map fun kv => kV kv.1)))) t) ρ μ (.cell n) (μ1 ++ [.lst (es.map fun e => keyD e.1)]) := fun as σ H R Q kk =>
  ha as σ H R _ fun vs as1 H1 R1 p1 a1 x1 => by
    cases x1 with
    | cons x tl =>
      cases tl
      obtain ⟨p, kvs, rfl, e, q⟩ := dat_dic (dat_slot x)
      refine ⟨p, kvs, rfl, rd_hide e, fun l nl => ?_⟩
      have e1 : (kvs.map fun kv => kV kv.1) = (es.map (·.1)).map kV := by rw [← q.keys, List.map_map]; rfl
      have e2 : (es.map fun e => keyD e.1) = (es.map (·.1)).map keyD := by rw [List.map_map]; rfl
      rw [e1]
      obtain ⟨R2, a2⟩ := R1.snoc (H' := upd H1 l (.lst ((es.map (·.1)).map kV))) (c := .lst (es.map fun e => keyD e.1)) nl (same_upd nl) rfl fun h s => ⟨_, upd_same, by rw [e2]; exact dats_keys _⟩
      refine kk _ _ _ R2 (p1.trans (List.prefix_append _ _)) (a1.trans a2) ⟨l, ?_, rfl⟩
      subst hn
      rw [pd_len R1.cells]
      simp
end
end Dl
end
section
set_option Elab.async false
set_option maxRecDepth 100000
set_option maxHeartbeats 4000000
set_option linter.all false
namespace Dl
open PySem L2 ClX
/-! ### letters: the asked names -/
def askedOf (ms : List (Str × List Str)) (xs : List Str) : List Str := (ms.map (·.1)).filter fun n => decide (n ∈ xs)
inductive R_asked (C : Addr) : List D → D → Prop
  | mk (cs : List Str) (ms : List (Str × List Str)) (xs : List Str) (dl : D) (hd : dl = encL xs ∨ dl = encT xs) (nd : xs.Nodup) (hin : ∀ x ∈ xs, x ∈ ms.map (·.1)) (hl : ms.length ≤ 1000) : R_asked C [.ins C (bkF cs ms), dl] (encL (askedOf ms xs))
def takenD (ys : List Str) : List (Key × D) := ys.map fun x => ((.inr x : Key), D.bl true)
theorem look_taken (a : Str) : ∀ ys : List Str, (lookD (takenD ys) (.inr a)).isSome = decide (a ∈ ys)
  | [] => by simp [takenD, lookD]
  | y :: ys => by
    by_cases e : y = a
    · subst e
      simp [takenD, lookD, List.find?_cons]
    · have := look_taken a ys
      show (lookD (((.inr y : Key), D.bl true) :: takenD ys) (.inr a)).isSome = _
      rw [lookD_neg (e := ((.inr y : Key), D.bl true)) (by simpa using e), this]
      exact decide_eq_decide.mpr (by simp [Ne.symm e])
theorem taken_put {ys : List Str} {x : Str} (h : x ∉ ys) : putD (takenD ys) (.inr x) (.bl true) = takenD (ys ++ [x]) := by
  rw [putD_new]
  · unfold takenD
    rw [List.map_append]
    rfl
  · intro e he q
    obtain ⟨y, hy, rfl⟩ := List.mem_map.mp he
    cases q
    exact h hy
section
variable {P : Program} {w : World} {K : PySem.W.Frag} {mg : Str → Option Value} {base : Heap}
abbrev s_asked : Stmt := top 33
abbrev N_asked : List Str := ["book", "names", "taken", "name"]
theorem sc_asked : FnScope N_asked ["book", "names"] (C8.fnScope s_asked) := C8.fnScope_by (by decide +kernel)
theorem ok_asked {C f : Addr} {fd : FuncData} (Fd : C8.Def K mg "asked_names" s_asked f fd) (b : Binds K fd ["book", "names"] []) (T : Bi mg) (c_is_list : C8.Cal P w K mg base 1 "is_list" (spF R_is_list) []) (c_known : C8.Cal P w K mg base 2 "check_known" (spF (R_known C)) []) (m_names : C8.Met P w K mg base 1 C "names" (spF (R_names C)) []) : C8.Cal P w K mg base 3 "asked_names" (spF (R_asked C)) [] := by
  refine C8.cal0 Fd b .nil sc_asked (len_F fun ds d h => by cases h; rfl) fun cdv A outer s H vs Q E hr h => ?_
  refine ⟨_, (pss_cons (ps_if (pt_not (pt_val (C8.pe_c c_is_list hr (by decide) rfl (pa_cons (pv 1) pa_nil)))) (pss_one ps_never) pss_nil)
    (pss_cons (ps_set (i := 2) sc_asked.nd rfl (by first | exact Or.inl rfl | exact Or.inr rfl) pe_dnewK)
    (pss_cons (ps_for PassesOwn.never rfl (pi_lt (pv 1)) (pg_name (i := 3) sc_asked.nd rfl (by first | exact Or.inl rfl | exact Or.inr rfl))
      (pss_cons (ps_expr (C8.pe_c c_known hr (by decide) rfl (pa_cons (pv 0) (pa_cons (pv 3) pa_nil))))
      (pss_cons (ps_if (pt_cmp (pc_din (lt_units (k := 2) hr.un) (pv 3) (pv 2))) (pss_one ps_never) pss_nil)
      (pss_one (ps_asg pe_bl (pg_sub (pv 2) (pv 3) (set_dict (lt_units (k := 2) hr.un))))))))
    (pss_one (ps_ret (pe_lc (own := [("name", 3)]) (g := gName 3) rfl sc_asked.nd (pi_list (C8.pe_mt0 m_names hr (by decide) (pv 0))) (blkOk_by (N := N_asked) (sc := C8.fnScope s_asked) (by decide +kernel)) (fun _ _ _ _ _ => (pg_name (i := 3) sc_asked.nd rfl (by first | exact Or.inl rfl | exact Or.inr rfl)))
      (fun _ _ _ _ _ => (pts_one (pt_cmp (pc_din (lt_units (k := 2) hr.un) (pv 3) (pv 2))))) (fun _ _ _ _ _ => (pv 3)))))))), run_F h ?_⟩
  rintro _ _ ⟨cs, ms, xs, dl, hd, nd, hin, hl⟩ F -
  have hs1000 : (1000 : Nat) < sizeLine := by decide
  have hxl : xs.length ≤ 1000 := Nat.le_trans (nodup_le nd hin) (by rw [List.length_map]; exact hl)
  refine ⟨_, .rt [.dic (takenD xs)], ?_⟩
  refine ws_seq (ws_if (b := false) (ev_teq (evt_not (evt_val (ev_callF (ds := [dl]) (by rcases hd with rfl | rfl; exact R_is_list.lst _; exact R_is_list.tup _) (eva_cons (ev_var 1 rfl (by simp)) eva_nil)))) rfl) (fun e => by cases e) (fun _ => ws_next)) ?_
  let S : Nat → List Slot × List Cell := fun i => ([.dat (.ins C (bkF cs ms)), .dat dl, .cell 0, .un], [.dic (takenD (xs.take i))])
  refine ws_seq (ρ1 := (S 0).1) (μ1 := (S 0).2) (ws_set 2 (ev_dnewO 0 rfl)) ?_
  refine ws_seq (ρ1 := (S xs.length).1) (μ1 := (S xs.length).2) (ws_forN xs.length [3] S (evi_lt (xs := xs.map .str) hd (ev_var 1 rfl (by simp))) rfl (List.length_map _) ?turn) ?ret
  case turn =>
    intro i d hd'
    rw [List.getElem?_map] at hd'
    obtain ⟨x, ex, rfl⟩ := Option.map_eq_some_iff.mp hd'
    have hx := hin x (List.mem_of_getElem? ex)
    have hnew : x ∉ xs.take i := not_in_take nd ex
    have es : S (i + 1) = ([.dat (.ins C (bkF cs ms)), .dat dl, .cell 0, .un], [.dic (putD (takenD (xs.take i)) (.inr x) (.bl true))]) := by
      rw [taken_put hnew]
      show (_, [Cell.dic (takenD (xs.take (i + 1)))]) = _
      rw [List.take_add_one, ex]
      rfl
    have eS : S i = ([.dat (.ins C (bkF cs ms)), .dat dl, .cell 0, .un], [.dic (takenD (xs.take i))]) := rfl
    have hz : (takenD (xs.take i)).length < sizeLine := by
      unfold takenD
      rw [List.length_map, List.length_take]
      omega
    have hno : (lookD (takenD (xs.take i)) (.inr x)).isSome = false := by rw [look_taken]; exact decide_eq_false hnew
    rw [es, eS]
    dsimp only
    clear es eS
    clear_value S
    generalize takenD (xs.take i) = acc at hz hno ⊢
    refine ⟨_, evg_name 3, .inl (ws_weak (ρ1 := [.dat (.ins C (bkF cs ms)), .dat dl, .cell 0, .dat (.str x)]) ?_ ?_)⟩
    rotate_left
    · repeat first | exact .nil | refine .cons (.inl rfl) ?_ | refine .cons (.inr rfl) ?_
    refine ws_seq (ws_drop (ev_callF (ds := [.ins C (bkF cs ms), .str x]) (R_known.mk cs ms x hx) (eva_cons (ev_var 0 rfl (by simp)) (eva_cons (ev_var 3 rfl (by simp)) eva_nil)))) ?_
    refine ws_seq (ws_if (b := false) (ev_teq (evt_val (ev_inDC (k := .inr x) (ev_var 3 rfl (by simp)) (ev_var 2 rfl (by simp)) rfl)) hno) (fun e => by cases e) (fun _ => ws_next)) ?_
    exact ws_eqm (ws_asg (ev_bl true) (wg_subD (k := .inr x) (es := acc) (n := 0) (ev_var 2 rfl (by simp)) (ev_var 3 rfl (by simp)) rfl hz)) rfl
  case ret =>
    have hT : xs.take xs.length = xs := List.take_length
    show Ws F _ [.dat (.ins C (bkF cs ms)), .dat dl, .cell 0, .un] [.dic (takenD (xs.take xs.length))] _
    rw [hT]
    refine ws_ret (ev_lcF (α := Str) (enc := .str) (xs := ms.map (·.1)) (p := fun n => decide (n ∈ xs)) (f := .str) (evi_list (ev_meth (fs := bkF cs ms) (ds := []) rfl (R_names.mk cs ms) (ev_var 0 rfl (by simp)) eva_nil)) ?a1 (by rw [List.length_map]; omega) (fun F' a => evg_name 3) (fun F' a _ => ev_teq (evt_val (ev_inDC (k := .inr a) (ev_var 3 rfl (by simp [keyD])) (ev_var 2 rfl (by simp)) rfl)) (look_taken a xs)) (fun F' a _ _ => ev_var 3 rfl (by simp)))
    case a1 =>
      intro i hi
      cases List.mem_singleton.mp hi
      rfl
end
end Dl
end
section
set_option Elab.async false
set_option maxRecDepth 100000
set_option maxHeartbeats 4000000
set_option linter.all false
namespace Dl
open PySem L2 ClX
/-! ### letters: parts -/
/-- the asked groups around a name, those with fewer counters first -/
def upOf (ms : List (Str × List Str)) (asked : List Str) (n : Str) : List Str := (around (sortR (groupRows ms)) (lookG ms n)).filter fun g => decide (g ∈ asked)
def partsI (ms : List (Str × List Str)) (asked some : List Str) (a : Str) : List Str := some.filter fun n => decide ((upOf ms asked n).head? = Option.some a)
def partsOf (ms : List (Str × List Str)) (asked : List Str) (a : Str) : List Str := partsI ms asked asked a
inductive R_parts (C : Addr) : List D → D → Prop
  | mk (cs : List Str) (ms : List (Str × List Str)) (asked : List Str) (nd : asked.Nodup) (hin : ∀ x ∈ asked, x ∈ ms.map (·.1)) (hl : ms.length ≤ 1000) : R_parts C [.ins C (bkF cs ms), encL asked] (.dic (setsD (asked.map fun a => (a, partsOf ms asked a))))
def partsC (ms : List (Str × List Str)) (asked : List Str) (i : Nat) : List Cell := (asked.map fun a => Cell.lst ((partsI ms asked (asked.take i) a).map .str)) ++ [.dcs (asked.zipIdx.map fun p => ((.inr p.1 : Key), Slot.cell p.2))]
theorem zipIdx_snoc {α : Type} (xs : List α) (x : α) : (xs ++ [x]).zipIdx = xs.zipIdx ++ [(x, xs.length)] := by
  rw [List.zipIdx_append]
  simp
theorem lookS_idx {g : Str} : ∀ {asked : List Str} (k : Nat), g ∈ asked → lookS ((asked.zipIdx k).map fun p => ((.inr p.1 : Key), Slot.cell p.2)) (.inr g) = some (.cell (k + asked.idxOf g))
  | [], _, h => by cases h
  | a :: as, k, h => by
    rw [List.zipIdx_cons, List.map_cons]
    by_cases e : a = g
    · subst e
      simp [lookS, List.find?_cons]
    · have h : g ∈ as := by
        rcases List.mem_cons.mp h with q | q
        · exact absurd q.symm e
        · exact q
      have ih := lookS_idx (k + 1) h
      have e2 : (a :: as).idxOf g = as.idxOf g + 1 := by
        rw [List.idxOf_cons, show (a == g) = false by simpa using e]
        rfl
      rw [e2, show k + (as.idxOf g + 1) = k + 1 + as.idxOf g by omega]
      simpa [lookS, List.find?_cons, e] using ih
theorem partsI_snoc (ms : List (Str × List Str)) (asked some : List Str) (x a : Str) : partsI ms asked (some ++ [x]) a = partsI ms asked some a ++ (if (upOf ms asked x).head? = Option.some a then [x] else []) := by
  unfold partsI
  rw [List.filter_append]
  by_cases h : (upOf ms asked x).head? = Option.some a
  · simp [h]
  · simp [h]
/-- the cells behind one more name -/
theorem partsC_none {ms : List (Str × List Str)} {asked : List Str} {i : Nat} {x : Str} (ex : asked[i]? = some x) (h : upOf ms asked x = []) : partsC ms asked (i + 1) = partsC ms asked i := by
  unfold partsC
  congr 1
  refine List.map_congr_left fun a _ => ?_
  rw [List.take_add_one, ex, Option.toList_some, partsI_snoc, h]
  simp
theorem partsC_some {ms : List (Str × List Str)} {asked : List Str} (nd : asked.Nodup) {i : Nat} {x g : Str} {r : List Str} (ex : asked[i]? = some x) (h : upOf ms asked x = g :: r) (hg : g ∈ asked) :
    partsC ms asked (i + 1) = (partsC ms asked i).set (asked.idxOf g) (.lst ((partsI ms asked (asked.take i) g).map .str ++ [.str x])) := by
  have hi : asked.idxOf g < asked.length := List.idxOf_lt_length_of_mem hg
  unfold partsC
  rw [List.set_append_left _ _ (by rw [List.length_map]; exact hi)]
  congr 1
  have ht : asked.take (i + 1) = asked.take i ++ [x] := by rw [List.take_add_one, ex]; rfl
  rw [ht]
  refine List.ext_getElem (by rw [List.length_set, List.length_map, List.length_map]) fun j h1 h2 => ?_
  rw [List.length_map] at h1
  rw [List.getElem_map, List.getElem_set, List.getElem_map, partsI_snoc, h]
  by_cases e : asked.idxOf g = j
  · subst e
    rw [if_pos rfl, List.getElem_idxOf, if_pos (by simp), List.map_append]
    rfl
  · rw [if_neg e, if_neg, List.append_nil]
    intro q
    have q : g = asked[j] := Option.some.inj q
    exact e (by rw [q]; exact nd.idxOf_getElem j h1)
theorem partsC_at {ms : List (Str × List Str)} {asked : List Str} {i : Nat} {g : Str} (hg : g ∈ asked) : (partsC ms asked i)[asked.idxOf g]? = some (.lst ((partsI ms asked (asked.take i) g).map .str)) := by
  have hi : asked.idxOf g < asked.length := List.idxOf_lt_length_of_mem hg
  unfold partsC
  rw [List.getElem?_append_left (by rw [List.length_map]; exact hi), List.getElem?_map, List.getElem?_eq_getElem hi, List.getElem_idxOf]
  rfl
theorem partsC_end (ms : List (Str × List Str)) (asked : List Str) (i : Nat) : (partsC ms asked i)[asked.length]? = some (.dcs (asked.zipIdx.map fun p => ((.inr p.1 : Key), Slot.cell p.2))) := by
  unfold partsC
  rw [List.getElem?_append_right (by rw [List.length_map]; exact Nat.le_refl _), List.length_map, Nat.sub_self]
  rfl
end Dl
end
section
set_option Elab.async false
set_option maxRecDepth 100000
set_option linter.all false
namespace L2
open PySem PySem.Spec PyProof.Rows PySem.Calls
section
variable {X : Cx}
/-- y = {k: v for ..}, y a plain local -/
theorem ps_setDc {i : Nat} {y : Str} {py : Pos} {kx vx tg iter : Expr} {ifs : List Expr} {scope : Scope} {own : List (Str × Nat)} {pos spos : Pos} {wi : TI} {g : TG} {tt : TT} {tk tv : TE} (hc : X.calm = true) (hN : X.N.Nodup) (hy : X.N[i]? = some y) (hyl : X.env.scope.names.lookup y = some .local)
    (hsw : swapsWith (.DictComp kx vx [⟨tg, iter, ifs, 0⟩] scope pos) (some (.Name y py)) spos.line X.env = pure true) (hi : PI X tg iter wi) (ok : BlkOk X.N X.env.scope scope own)
    (hg : ∀ (s : Shared) (H : Hp) (C : Addr) (cl : List (Str × Addr)) (fp : List Addr), PG (X.blk s H scope (compEnvC scope cl C X.env) fp) tg g) (ht : ∀ (s : Shared) (H : Hp) (C : Addr) (cl : List (Str × Addr)) (fp : List Addr), PTs (X.blk s H scope (compEnvC scope cl C X.env) fp) ifs tt)
    (hk : ∀ (s : Shared) (H : Hp) (C : Addr) (cl : List (Str × Addr)) (fp : List Addr), PE (X.blk s H scope (compEnvC scope cl C X.env) fp) kx tk)
    (he : ∀ (s : Shared) (H : Hp) (C : Addr) (cl : List (Str × Addr)) (fp : List Addr), PE (X.blk s H scope (compEnvC scope cl C X.env) fp) vx tv) (hs : ∀ x, foldedSetIterable iter X.env x = pure x := by intro _; rfl) :
    PS X (.Assign [.Name y py] (.DictComp kx vx [⟨tg, iter, ifs, 0⟩] scope pos) spos) (tAsg (tDc wi g tt tk tv (own.map (·.2))) (gName i)) := by
  refine ⟨fun pins s σ H D I h => ?_⟩
  rw [exec_Assign_Name_used _ _ _ _ hsw]
  refine wpAny_bind (wpAny_standAt (wpAny_bind ?_))
  show wpAny _ X.A (do let _ ← comprehension (.DictComp kx vx [⟨tg, iter, ifs, 0⟩] scope pos) scope X.env (firstIterPos [⟨tg, iter, ifs, 0⟩] pos) newDict false (eval iter X.env) (some (assign (.Name y py) X.env))) _ _ s
  have h : tDc wi g tt tk tv (own.map (·.2)) σ H (fun x H1 => gName i x σ H1 D.nx) := h
  refine wpAny_bind (thn (dc_core (Qf := fun _ s' => SP X pins D .next s') hc hN I hi ok hg ht hk he hs h fun L C s' m H' I' q hn f => ?_) fun _ s' hq => wpAny_pure (wpAny_pure hq))
  show wpAny _ _ (assign (.Name y py) X.env (.ref L)) _ _ _
  refine wpAny_assign_Name (store_ok2 (v := V.ref L) I' hN hy (.inl hyl) rfl (fun s2 I2 ⟨a, sb, ha⟩ => ?_) (.inr hyl))
  obtain ⟨f0, f1, f2, f3, f4, f5⟩ := f
  have haC : C ≠ a := by
    rcases ha with z | z
    · rw [z]; exact f1
    · exact fun e => f4 y a z e.symm
  refine ⟨m, hn.sameBut sb haC, fun h3 sb3 => ?_⟩
  exact ⟨_, H', I2.turned (t' := s2.toks) (fun b o hb e => (sb3.2 b hb).trans e) f0 f1 f3 f4 f5, q⟩
theorem sw_trueD {kx vx : Expr} {gs : List Comprehension} {scope : Scope} {pos py : Pos} {y : Str} {l : Nat} {env : Env} (hk : env.scope.kind = .function) (hy : env.scope.names.lookup y = some .local) (hl : (py.line == pos.line) = true)
    (ha : (scope.names.any fun (n, k) => n == y && (k == .local || k == .cell)) = false) : swapsWith (.DictComp kx vx gs scope pos) (some (.Name y py)) l env = pure true := by
  have ky : env.kindOf y = some .local := hy
  have hb : env.blockKind = .function := by unfold Env.blockKind; rw [hk]; rfl
  unfold swapsWith
  simp only [hb, ky, ha, Expr.pos, hl]
  rfl
end
end L2
end
section
set_option Elab.async false
set_option maxRecDepth 100000
set_option maxHeartbeats 4000000
set_option linter.all false
namespace Dl
open PySem L2 ClX
theorem around_len (gs : List (Str × List Str)) (b : List Str) : (around gs b).length ≤ gs.length := by
  unfold around
  rw [List.length_map]
  exact List.length_filter_le _ _
theorem rows_len (ms : List (Str × List Str)) : (sortR (groupRows ms)).length ≤ ms.length := by
  unfold sortR groupRows
  rw [List.length_mergeSort, List.length_map]
  refine Nat.le_trans (List.length_filter_le _ _) ?_
  rw [List.length_map]
  exact Nat.le_refl _
def partsX (asked : List Str) : List (Key × Nat) := asked.zipIdx.map fun p => ((.inr p.1 : Key), p.2)
theorem partsX_snd (asked : List Str) : (partsX asked).map (·.2) = List.range asked.length := by
  unfold partsX
  rw [List.map_map]
  have : (fun x : Key × Nat => x.2) ∘ (fun p : Str × Nat => ((.inr p.1 : Key), p.2)) = Prod.snd := rfl
  rw [this, List.zipIdx_map_snd, List.range_eq_range']
def keyS : Key → Str
  | .inl _ => ""
  | .inr x => x
section
variable {P : Program} {w : World} {K : PySem.W.Frag} {mg : Str → Option Value} {base : Heap}
abbrev s_parts : Stmt := top 34
abbrev N_parts : List Str := ["book", "asked", "parts", "name", "groups", "group"]
theorem sc_parts : FnScope N_parts ["book", "asked"] (C8.fnScope s_parts) := C8.fnScope_by (by decide +kernel)
theorem ok_parts {C f : Addr} {fd : FuncData} (Fd : C8.Def K mg "parts_of_asked" s_parts f fd) (b : Binds K fd ["book", "asked"] []) (T : Bi mg) (m_around : C8.Met P w K mg base 1 C "groups_around" (spF (R_around C)) []) : C8.Cal P w K mg base 2 "parts_of_asked" (spF (R_parts C)) [] := by
  refine C8.cal0 Fd b .nil sc_parts (len_F fun ds d h => by cases h; rfl) fun cdv A outer s H vs Q E hr h => ?_
  refine ⟨_, (pss_cons (ps_setDc (i := 2) (own := [("name", 3)]) (g := gName 3) (tt := tYes) rfl sc_parts.nd rfl rfl (sw_trueD rfl rfl rfl (by decide +kernel)) (pi_list (pv 1)) (blkOk_by (N := N_parts) (sc := C8.fnScope s_parts) (by decide +kernel)) (fun _ _ _ _ _ => (pg_name (i := 3) sc_parts.nd rfl (by first | exact Or.inl rfl | exact Or.inr rfl))) (fun _ _ _ _ _ => pts_nil) (fun _ _ _ _ _ => (pv 3)) (fun _ _ _ _ _ => pe_lst pa_nil))
    (pss_cons (ps_for PassesOwn.never rfl (pi_list (pv 1)) (pg_name (i := 3) sc_parts.nd rfl (by first | exact Or.inl rfl | exact Or.inr rfl))
      (pss_cons (ps_setLc (i := 4) (own := [("group", 5)]) (g := gName 5) rfl sc_parts.nd rfl rfl (sw_true rfl rfl rfl (by decide +kernel)) (pi_tup (C8.pe_mt m_around hr (by decide) (pv 0) (pa_cons (pv 3) pa_nil))) (blkOk_by (N := N_parts) (sc := C8.fnScope s_parts) (by decide +kernel)) (fun _ _ _ _ _ => (pg_name (i := 5) sc_parts.nd rfl (by first | exact Or.inl rfl | exact Or.inr rfl))) (fun _ _ _ _ _ => (pts_one (pt_cmpR (k_in rfl) (pv 5) (pv 1) (by rfl)))) (fun _ _ _ _ _ => (pv 5)))
      (pss_one (ps_if (k_truth rfl (pv 4)) (pss_one (ps_expr (pe_bm PySem.F.plainAttrs_list PySem.F.slot_list_append PySem.F.type_list_append mt_append (pe_dget (lt_units (k := 1) hr.un) (pv 2) (pe_ix (k_ixL rfl) (pv 4) pe_int (fun _ _ => rfl)) (fun _ _ => rfl)) (pa_cons (pv 3) pa_nil)))) pss_nil))))
    (pss_one (ps_ret (pv 2))))), run_F h ?_⟩
  rintro _ _ ⟨cs, ms, asked, nd, hin, hl⟩ F -
  have hs1000 : (1000 : Nat) < sizeLine := by decide
  have hal : asked.length ≤ 1000 := Nat.le_trans (nodup_le nd hin) (by rw [List.length_map]; exact hl)
  let S : Nat → List Slot × List Cell := fun i => ([.dat (.ins C (bkF cs ms)), .dat (encL asked), .cell asked.length, .un, .un, .un], partsC ms asked i)
  refine ⟨_, .rt ((killAll (S asked.length).2 ((partsX asked).map (·.2))).set asked.length .dead), ?_⟩
  -- the empty lists
  refine ws_seq (ρ1 := (S 0).1) (μ1 := (S 0).2) (ws_eqm (ws_set 2 (ev_dcS asked.length (evi_list (xs := asked.map .str) (ev_var 1 rfl (by simp))) (List.length_map _) ?a1 (by omega) (fun i => (asked.take i).map fun _ => Cell.lst []) rfl (fun i => (asked.take i).zipIdx.map fun p => ((.inr p.1 : Key), Slot.cell p.2)) rfl ?a2 asked.length ?a3)) ?a4) ?_
  case a1 =>
    intro i hi
    cases List.mem_singleton.mp hi
    rfl
  case a2 =>
    intro i d hd F'
    rw [List.getElem?_map] at hd
    obtain ⟨x, ex, rfl⟩ := Option.map_eq_some_iff.mp hd
    have hi : i < asked.length := (List.getElem?_eq_some_iff.mp ex).1
    have ht : asked.take (i + 1) = asked.take i ++ [x] := by rw [List.take_add_one, ex]; rfl
    refine ⟨_, evg_name 3, _, evt_yes, .inr x, .cell i, _, ev_var 3 rfl (by simp [keyD]), ev_eqm (ev_lstO (ds := []) eva_nil (Nat.zero_le _) i (by rw [List.length_map, List.length_take]; omega)) ?b1, ?b2, ?b3⟩
    case b1 => rw [ht, List.map_append]; rfl
    case b2 =>
      intro q
      rw [List.map_map] at q
      obtain ⟨p, hp, q⟩ := List.mem_map.mp q
      have q : p.1 = x := Sum.inr.inj q
      have := List.fst_mem_of_mem_zipIdx hp
      rw [q] at this
      exact not_in_take nd ex this
    case b3 =>
      rw [ht, zipIdx_snoc, List.map_append, List.length_take]
      rw [show min i asked.length = i by omega]
      rfl
  case a3 => rw [List.length_map, List.take_length]
  case a4 =>
    show _ = partsC ms asked 0
    unfold partsC
    rw [List.take_length]
    congr 1
  -- the turns
  refine ws_seq (ρ1 := (S asked.length).1) (μ1 := (S asked.length).2) (ws_forN asked.length [3] S (evi_list (xs := asked.map .str) (ev_var 1 rfl (by simp))) rfl (List.length_map _) ?turn) ?ret
  case turn =>
    intro i d hd
    rw [List.getElem?_map] at hd
    obtain ⟨x, ex, rfl⟩ := Option.map_eq_some_iff.mp hd
    have hx := hin x (List.mem_of_getElem? ex)
    refine ⟨_, evg_name 3, .inl (ws_weak (ρ1 := [.dat (.ins C (bkF cs ms)), .dat (encL asked), .cell asked.length, .dat (.str x), .dat (encL (upOf ms asked x)), .un]) ?_ ?_)⟩
    rotate_left
    · repeat first | exact .nil | refine .cons (.inl rfl) ?_ | refine .cons (.inr rfl) ?_
    show Ws F _ [.dat (.ins C (bkF cs ms)), .dat (encL asked), .cell asked.length, .dat (.str x), .un, .un] (partsC ms asked i) (.nx _ (partsC ms asked (i + 1)))
    refine ws_seq (ρ1 := [.dat (.ins C (bkF cs ms)), .dat (encL asked), .cell asked.length, .dat (.str x), .dat (encL (upOf ms asked x)), .un]) (μ1 := partsC ms asked i) (ws_set 4 (ev_lcF (α := Str) (enc := .str) (xs := around (sortR (groupRows ms)) (lookG ms x)) (p := fun g => decide (g ∈ asked)) (f := .str) (evi_tup (ev_meth (fs := bkF cs ms) (ds := [.str x]) rfl (R_around.mk cs ms x hx) (ev_var 0 rfl (by simp)) (eva_cons (ev_var 3 rfl (by simp)) eva_nil))) ?c1 ?c2 (fun F' a => evg_name 5) (fun F' a _ => evt_test (ev_op opd_inS (ev_var 5 rfl (by simp)) (ev_var 1 rfl (by simp)))) (fun F' a _ _ => ev_var 5 rfl (by simp)))) ?_
    case c1 =>
      intro i hi
      cases List.mem_singleton.mp hi
      rfl
    case c2 =>
      have h1 := around_len (sortR (groupRows ms)) (lookG ms x)
      have h2 := rows_len ms
      omega
    cases hu : upOf ms asked x with
    | nil =>
      rw [partsC_none ex hu]
      exact ws_if (b := false) (evt_truth (d := encL []) rfl (ev_var 4 rfl (by simp))) (fun e => by cases e) (fun _ => ws_next)
    | cons g r =>
      have hg : g ∈ asked := by
        have : g ∈ upOf ms asked x := by rw [hu]; exact List.mem_cons_self
        unfold upOf at this
        exact of_decide_eq_true (List.mem_filter.mp this).2
      rw [partsC_some nd ex hu hg]
      refine ws_if (b := true) (evt_truth (d := encL (g :: r)) rfl (ev_var 4 rfl (by simp))) (fun _ => ws_drop (ev_mut (es := [.str x]) (md_append ?d1) (ev_dgetS (k := .inr g) (n := asked.length) ?d2 (ev_var 2 rfl (by simp)) (ev_op (opd_ixL (at_zero (d := .str g) (ds := r.map .str))) (ev_var 4 rfl (by simp)) (ev_int _)) (partsC_end ms asked i)) (eva_cons (ev_var 3 rfl (by simp)) eva_nil) ⟨_, partsC_at hg⟩ (partsC_at hg))) (fun e => by cases e)
      case d1 =>
        rw [List.length_map]
        refine Nat.lt_of_le_of_lt (List.length_filter_le _ _) ?_
        rw [List.length_take]
        omega
      case d2 =>
        have := lookS_idx (asked := asked) 0 hg
        rw [Nat.zero_add] at this
        exact this
  case ret =>
    refine ws_ret (ev_eqd (ev_freeDS (k := asked.length) (xs := partsX asked) (f := fun e => (partsOf ms asked (keyS e.1)).map .str) (ev_var 2 rfl (by simp)) ?e1 ?e2 ?e3) ?e4)
    case e1 =>
      rw [partsC_end ms asked asked.length]
      unfold partsX
      rw [List.map_map]
      rfl
    case e2 =>
      intro e he
      obtain ⟨p, hp, rfl⟩ := List.mem_map.mp he
      have hm := List.mem_zipIdx hp
      have h1 : asked[p.2]? = some p.1 := by
        rw [List.getElem?_eq_getElem (by omega), hm.2.2]
        simp
      show (partsC ms asked asked.length)[p.2]? = _
      unfold partsC
      rw [List.getElem?_append_left (by rw [List.length_map]; omega), List.getElem?_map, h1, List.take_length]
      rfl
    case e3 =>
      rw [partsX_snd]
      exact List.nodup_range
    case e4 =>
      unfold partsX setsD
      rw [List.map_map, List.map_map]
      congr 1
      have : ∀ (xs : List Str) (k : Nat) (f : Str → Key × D), (xs.zipIdx k).map (f ∘ Prod.fst) = xs.map f := fun xs k f => by
        rw [← List.map_map, List.zipIdx_map_fst]
      exact this asked 0 fun a => ((.inr a : Key), encL (partsOf ms asked a))
end
end Dl
end
section
set_option Elab.async false
set_option maxRecDepth 100000
set_option linter.all false
namespace Dl
open PySem L2
/-! ### a call by two keywords, in the other sequence -/
structure CalK2 (P : Program) (w : World) (K : PySem.W.Frag) (mg : Str → Option Value) (base : Heap) (k : Nat) (x k1 k2 : Str) (sp : Sp) : Prop where
  ex : ∃ (f : Addr) (fd : FuncData) (ps : List Str), FnOk P w K mg base C8.CX0 k f fd ps sp ∧ mg x = some (.ref f) ∧ PySem.W.keepIn K (.ref f) = true ∧ ∀ (s : Shared) (a b : Value), BindsTo s fd ⟨[], [(k1, a), (k2, b)]⟩ (ps.zip [b, a])
theorem binds_k2 {K : PySem.W.Frag} {x qual : Str} {st : Stmt} {f : Addr} {fd : FuncData} (F : C8.Fun K x qual st f fd) (df : fd.defaults = .none) {ps : List Str} {k1 k2 : Str}
    (h : ∀ (kV doc pm : Value) (an : Option Addr) (cdv ct : Value) (a b : Value), bindArgs (PySem.W.fnOf x qual (C8.fnArgs st) (C8.fnBody st) (C8.fnScope st) .none kV doc pm an cdv ct) ⟨[], [(k1, a), (k2, b)]⟩ = pure (ps.zip [b, a])) (s : Shared) (a b : Value) : BindsTo s fd ⟨[], [(k1, a), (k2, b)]⟩ (ps.zip [b, a]) := by
  obtain ⟨oc, od, dV, kV, doc, pm, an, cdv, ct, osl, rfl, lk, hcd⟩ := F.ex
  have e : dV = .none := df
  subst e
  exact .of_eq (h kV doc pm an cdv ct a b)
def tCallK2 (sp : Sp) (E : XK) (tk : TA) : TE := fun σ H Q => tk σ H fun zs H2 => ∃ a b, zs = [a, b] ∧ sp [b, a] H2 Q E
section
variable {X : Cx} {k j : Nat} {x k1 k2 : Str} {sp : Sp} {p pos : Pos} {kws : List Keyword} {tk : TA}
theorem pe_ck2 (c : CalK2 X.prog X.w X.K X.mg X.base k x k1 k2 sp) (hr : Room j X.A) (hkj : k ≤ j) (hg : Gl X x) (hkw : PK X kws tk) (hall : (backToKw pos (keywordEach kws X.env)).all (·.1.isSome) = true := by rfl) (hks : (backToKw pos (keywordEach kws X.env)).filterMap (·.1) = [k1, k2] := by rfl)
    (hdb : (x == ("__debug__" : Str)) = false := by decide) (hpl : ((backTo pos (starEach [] X.env)).any (·.1) || (backToKw pos (keywordEach kws X.env)).any (·.1.isNone)) = false := by rfl) :
    PE X (.Call (.Name x p) [] kws pos) (tCallK2 sp C8.E0 tk) := by
  obtain ⟨f, fd, ps, F, hm, hk, bind⟩ := c.ex
  refine ⟨fun pins s σ H Q I h => ?_⟩
  refine wpAny_Call_Name_kw (ld_glob I hg hm ?_ hdb)
  refine PySem.W.callWith_KW0 (h₀ := X.base) I.ok.mod.kin hk hall (thn (hkw.run pos pins s σ H _ I h) fun ws s2 ⟨zs, H2, I2, rz, a, b, ez, q2⟩ => ⟨I2.kIn, ?_⟩) hpl
  rw [hks]
  subst ez
  cases rz with
  | @cons _ u1 _ _ r1 rz =>
    cases rz with
    | @cons _ u2 _ _ r2 rz =>
      cases rz
      refine wpAny_call (codeAny_mono (F.run X.A X.stack s2 H2 ⟨[], [(k1, u1), (k2, u2)]⟩ [u2, u1] [b, a] Q C8.E0 (hr.mono hkj) I2.env0 (bind s2 u1 u2) (.cons r2 (.cons r1 .nil)) q2) fun r s' hq => ?_)
      cases r with
      | error e => exact C8.pass0 (E := C8.E0) pins σ H2 s2 e s' I2 hq
      | ok fl =>
        cases fl with
        | ret u => exact I2.after hq
        | next => exact False.elim hq
        | brk => exact False.elim hq
        | cont => exact False.elim hq
end
section
variable {F : Fm} {ρ : List Slot} {μ μ1 : List Cell} {tk : TA}
theorem ev_callNK {RR : List D → List D → Prop} {d1 d2 : D} {es : List D} {E : XK} (hr : RR [d2, d1] es) (ha : EvA F tk ρ μ [.dat d1, .dat d2] μ1) (n : Nat) (hn : n = μ1.length) : Ev F (tCallK2 (spN RR) E tk) ρ μ (.cell n) (μ1 ++ [.lst es]) := fun as σ H R Q k =>
  ha as σ H R _ fun vs as1 H1 R1 p1 a1 x1 => by
    cases x1 with
    | @cons _ v1 _ _ x1 x2 =>
      cases x2 with
      | @cons _ v2 _ _ x2 x3 =>
        cases x3
        refine ⟨v1, v2, rfl, ?_⟩
        have y1 := dat_slot x1
        have y2 := dat_slot x2
        exact ⟨_, [d2, d1], es, R1.live, .cons y2 (.cons y1 .nil), hr, fun p ws H3 s np e x => by
          have ez : hid (μ1 ++ [.lst es]) (as1 ++ [p]) = hid μ1 as1 ++ [p] := hid_snoc p rfl (pd_len R1.cells)
          obtain ⟨R2, a2⟩ := R1.snocD (H' := H3) (c := .lst es) np s rfl ⟨ws, e, by
            rw [ez]
            exact Dats.less (fun b m => by
              rcases List.mem_append.mp m with m | m
              · rcases List.mem_append.mp m with m | m
                · exact List.mem_cons_of_mem _ (List.mem_append_left _ m)
                · rw [List.mem_singleton] at m
                  subst m
                  exact List.mem_cons_self
              · exact List.mem_cons_of_mem _ (List.mem_append_right _ m)) x⟩
          refine k _ _ _ R2 (p1.trans (List.prefix_append _ _)) (a1.trans a2) ⟨p, ?_, rfl⟩
          subst hn
          rw [pd_len R1.cells]
          simp⟩
/-- repr of a list -/
theorem cd_repr {K : PySem.W.Frag} {d : D} {p : PyData} (hl : ∃ ds, d = .lst ds ∨ d = .tup ds) (hp : pyD d = some p) (h1 : p.showable = true) (h2 : p.hasDict = false) (h3 : p.depth ≤ 40) (h4 : p.shown.length ≤ sizeLine) : CallD (rReprD K) [d] (.str p.shown) := fun z H vs lv x Q k => by
  obtain ⟨v, rfl, dv⟩ := dats_1 x
  obtain ⟨a, rfl⟩ : ∃ a, v = .ref a := by
    obtain ⟨ds, rfl | rfl⟩ := hl
    · obtain ⟨a, _, rfl, _⟩ := dat_lst dv; exact ⟨a, rfl⟩
    · obtain ⟨a, _, rfl, _⟩ := dat_tup dv; exact ⟨a, rfl⟩
  exact ⟨a, p, rfl, dv.dp hp, h1, h2, h3, h4, k _ H (.refl _) (.str _)⟩
end
end Dl
end
section
set_option Elab.async false
set_option maxRecDepth 100000
set_option maxHeartbeats 4000000
set_option linter.all false
namespace Dl
open PySem L2 ClX
/-! ### letters: filled names -/
def sizeOf (cs : List Str) (ms : List (Str × List Str)) (n : Str) : Int := ((placesN cs (lookG ms n)).length : Nat)
def filledB (cs : List Str) (ms : List (Str × List Str)) (n : Str) (ps : List Str) : Bool := decide ((ps.map fun p => sizeOf cs ms p).sum = sizeOf cs ms n)
inductive R_filled (C : Addr) : List D → D → Prop
  | mk (cs : List Str) (ms : List (Str × List Str)) (n : Str) (ps : List Str) (h : n ∈ ms.map (·.1)) (hp : ∀ p ∈ ps, p ∈ ms.map (·.1)) (hl : ps.length ≤ 1000) : R_filled C [.ins C (bkF cs ms), .str n, encL ps] (.bl (filledB cs ms n ps))
def fillK (cs : List Str) (ms : List (Str × List Str)) (asked : List Str) (a : Str) : Bool := !(partsOf ms asked a).isEmpty && filledB cs ms a (partsOf ms asked a)
def fillT (cs : List Str) (ms : List (Str × List Str)) (asked : List Str) : List (Str × List Str) := (asked.filter (fillK cs ms asked)).map fun a => (a, partsOf ms asked a)
def tTru (K : PySem.W.Frag) (ta : TE) : TT := fun σ H Q => ta σ H fun x H' => ∃ k, TruV K x H' k ∧ Q k H'
inductive R_fparts (C : Addr) : List D → D → Prop
  | mk (cs : List Str) (ms : List (Str × List Str)) (asked : List Str) (nd : asked.Nodup) (hin : ∀ x ∈ asked, x ∈ ms.map (·.1)) (hl : ms.length ≤ 1000) : R_fparts C [.ins C (bkF cs ms), encL asked] (.dic (setsD (fillT cs ms asked)))
inductive R_fnames (C : Addr) : List D → List D → Prop
  | mk (cs : List Str) (ms : List (Str × List Str)) (xs : List Str) (dl : D) (hd : dl = encL xs ∨ dl = encT xs) (nd : xs.Nodup) (hin : ∀ x ∈ xs, x ∈ ms.map (·.1)) (hl : ms.length ≤ 1000) (hn : (ms.map (·.1)).Nodup) : R_fnames C [.ins C (bkF cs ms), dl] (((fillT cs ms (askedOf ms xs)).map (·.1)).map .str)
theorem partsOf_sub {ms : List (Str × List Str)} {asked : List Str} {a x : Str} (h : x ∈ partsOf ms asked a) : x ∈ asked := (List.mem_filter.mp h).1
theorem look_setsOf (f : Str → List Str) {n : Str} {xs : List Str} (h : n ∈ xs) : lookD (setsD (xs.map fun a => (a, f a))) (.inr n) = some (encL (f n)) := by
  have := look_map (fun a => encL (f a)) h
  unfold setsD
  rw [List.map_map]
  exact this
section
variable {P : Program} {w : World} {K : PySem.W.Frag} {mg : Str → Option Value} {base : Heap}
abbrev s_filled : Stmt := top 36
abbrev N_filled : List Str := ["book", "name", "parts", "part"]
theorem sc_filled : FnScope N_filled ["book", "name", "parts"] (C8.fnScope s_filled) := C8.fnScope_by (by decide +kernel)
theorem ok_filled {C f : Addr} {fd : FuncData} (Fd : C8.Def K mg "is_filled" s_filled f fd) (b : Binds K fd ["book", "name", "parts"] []) (T : Bi mg) (m_plc : C8.Met P w K mg base 1 C "places" (spF (R_plc C)) []) : C8.Cal P w K mg base 2 "is_filled" (spF (R_filled C)) [] := by
  refine C8.cal0 Fd b .nil sc_filled (len_F fun ds d h => by cases h; rfl) fun cdv A outer s H vs Q E hr h => ?_
  refine ⟨_, (pss_one (ps_ret (pe_cmpR op_eq (pe_callB (k_sum rfl rfl) (by rfl) T.b_sum (by decide +kernel) (pa_cons (pe_lc (own := [("part", 3)]) (g := gName 3) (tt := tYes) rfl sc_filled.nd (pi_list (pv 2)) (blkOk_by (N := N_filled) (sc := C8.fnScope s_filled) (by decide +kernel)) (fun _ _ _ _ _ => (pg_name (i := 3) sc_filled.nd rfl (by first | exact Or.inl rfl | exact Or.inr rfl))) (fun _ _ _ _ _ => pts_nil)
      (fun _ _ _ _ _ => (pe_callB (k_len rfl) (by rfl) T.b_len PySem.boot_len (pa_cons (C8.pe_mt m_plc hr (by decide) (pv 0) (pa_cons (pv 3) pa_nil)) pa_nil)))) pa_nil))
    (pe_callB (k_len rfl) (by rfl) T.b_len PySem.boot_len (pa_cons (C8.pe_mt m_plc hr (by decide) (pv 0) (pa_cons (pv 1) pa_nil)) pa_nil)) (nomark _)))), run_F h ?_⟩
  rintro _ _ ⟨cs, ms, n, ps, hn, hp, hl⟩ F -
  have hlen : ∀ n, ((placesN cs (lookG ms n)).map fun k => D.int (k : Nat)).length = (placesN cs (lookG ms n)).length := fun n => List.length_map _
  refine ⟨_, .rt [], ws_ret (ev_op opd_eqI (ev_cb (ds := [.lst ((ps.map fun p => sizeOf cs ms p).map .int)]) cd_sum (eva_cons (ev_eqd (ev_lcF (α := Str) (enc := .str) (xs := ps) (p := fun _ => true) (f := fun p => .int (sizeOf cs ms p)) (evi_list (ev_var 2 rfl (by simp))) ?a1 (by omega) (fun F' a => evg_name 3) (fun F' a _ => evt_yes)
      (fun F' a ha _ => ev_eqd (ev_cb (ds := [encN (placesN cs (lookG ms a))]) cd_lenT (eva_cons (ev_meth (fs := bkF cs ms) (ds := [.str a]) rfl (R_plc.mk cs ms a (hp a ha)) (ev_var 0 rfl (by simp)) (eva_cons (ev_var 3 rfl (by simp)) eva_nil)) eva_nil)) (by unfold sizeOf; rw [hlen]))) ?a2) eva_nil))
    (ev_eqd (ev_cb (ds := [encN (placesN cs (lookG ms n))]) cd_lenT (eva_cons (ev_meth (fs := bkF cs ms) (ds := [.str n]) rfl (R_plc.mk cs ms n hn) (ev_var 0 rfl (by simp)) (eva_cons (ev_var 1 rfl (by simp)) eva_nil)) eva_nil)) (by unfold sizeOf; rw [hlen])))⟩
  case a1 =>
    intro i hi
    cases List.mem_singleton.mp hi
    rfl
  case a2 =>
    rw [List.filter_eq_self.mpr (fun _ _ => rfl), List.map_map]
    rfl
abbrev s_fparts : Stmt := top 35
abbrev N_fparts : List Str := ["book", "asked", "parts", "name"]
theorem sc_fparts : FnScope N_fparts ["book", "asked"] (C8.fnScope s_fparts) := C8.fnScope_by (by decide +kernel)
theorem ok_fparts {C f : Addr} {fd : FuncData} (Fd : C8.Def K mg "filled_parts" s_fparts f fd) (b : Binds K fd ["book", "asked"] []) (c_parts : C8.Cal P w K mg base 2 "parts_of_asked" (spF (R_parts C)) []) (c_filled : C8.Cal P w K mg base 2 "is_filled" (spF (R_filled C)) []) : C8.Cal P w K mg base 3 "filled_parts" (spF (R_fparts C)) [] := by
  refine C8.cal0 Fd b .nil sc_fparts (len_F fun ds d h => by cases h; rfl) fun cdv A outer s H vs Q E hr h => ?_
  refine ⟨_, (pss_cons (ps_set (i := 2) sc_fparts.nd rfl (by first | exact Or.inl rfl | exact Or.inr rfl) (C8.pe_c c_parts hr (by decide) rfl (pa_cons (pv 0) (pa_cons (pv 1) pa_nil))))
    (pss_one (ps_ret (pe_dc (own := [("name", 3)]) (g := gName 3) (tt := tAnd (tTru K (tDGet (tVar 2) (tVar 3))) (tB (tCall (spF (R_filled C)) [] C8.E0 (tCons (tVar 0) (tCons (tVar 3) (tCons (tDGet (tVar 2) (tVar 3)) tNil)))))) (tk := tVar 3) (tv := tDGet (tVar 2) (tVar 3)) rfl sc_fparts.nd (pi_list (pv 1)) (blkOk_by (N := N_fparts) (sc := C8.fnScope s_fparts) (by decide +kernel)) (fun _ _ _ _ _ => (pg_name (i := 3) sc_fparts.nd rfl (by first | exact Or.inl rfl | exact Or.inr rfl)))
      (fun _ _ _ _ _ => by
        refine pts_one (PW.pt (pw_and (k_truth (K := K) (ta := tDGet (tVar 2) (tVar 3)) rfl ?_) (pw_and1 (pt_val (C8.pe_c c_filled hr (by decide) rfl (pa_cons (pv 0) (pa_cons (pv 3) (pa_cons ?_ pa_nil))))))))
        · exact pe_dget (lt_units (k := 2) hr.un) (pv 2) (pv 3) (fun _ _ => rfl)
        · exact pe_dget (lt_units (k := 2) hr.un) (pv 2) (pv 3) (fun _ _ => rfl))
      (fun _ _ _ _ _ => (pv 3)) (fun _ _ _ _ _ => (pe_dget (lt_units (k := 2) hr.un) (pv 2) (pv 3) (fun _ _ => rfl))))))), run_F h ?_⟩
  rintro _ _ ⟨cs, ms, asked, nd, hin, hl⟩ F -
  have hs1000 : (1000 : Nat) < sizeLine := by decide
  have hal : asked.length ≤ 1000 := Nat.le_trans (nodup_le nd hin) (by rw [List.length_map]; exact hl)
  refine ⟨_, .rt [], ?_⟩
  refine ws_seq (ws_set 2 (ev_callF (ds := [.ins C (bkF cs ms), encL asked]) (R_parts.mk cs ms asked nd hin hl) (eva_cons (ev_var 0 rfl (by simp)) (eva_cons (ev_var 1 rfl (by simp)) eva_nil)))) ?_
  have hT : asked.take asked.length = asked := List.take_length
  refine ws_ret (ev_eqd (ev_dc asked.length (evi_list (xs := asked.map .str) (ev_var 1 rfl (by simp))) (List.length_map _) ?a1 (by omega) (fun _ => []) rfl (fun i => setsD (((asked.take i).filter (fillK cs ms asked)).map fun a => (a, partsOf ms asked a))) rfl ?a2) ?a3)
  case a1 =>
    intro i hi
    cases List.mem_singleton.mp hi
    rfl
  case a2 =>
    intro i d hd F'
    rw [List.getElem?_map] at hd
    obtain ⟨x, ex, rfl⟩ := Option.map_eq_some_iff.mp hd
    have hx := List.mem_of_getElem? ex
    have hlook := look_setsOf (partsOf ms asked) hx
    have ht : asked.take (i + 1) = asked.take i ++ [x] := by rw [List.take_add_one, ex]; rfl
    have hpl : (partsOf ms asked x).length ≤ 1000 := Nat.le_trans (List.length_filter_le _ _) hal
    refine ⟨_, evg_name 3, fillK cs ms asked x, [], ev_tmu (ev_teq (evt_and (evt_truth (d := encL (partsOf ms asked x)) rfl (ev_dget (k := .inr x) hlook (ev_var 2 rfl (by simp)) (ev_var 3 rfl (by simp)))) fun _ => evt_val (ev_callF (ds := [.ins C (bkF cs ms), .str x, encL (partsOf ms asked x)]) (R_filled.mk cs ms x _ (hin x hx) (fun p hp => hin p (partsOf_sub hp)) hpl) (eva_cons (ev_var 0 rfl (by simp)) (eva_cons (ev_var 3 rfl (by simp)) (eva_cons (ev_dget (k := .inr x) hlook (ev_var 2 rfl (by simp)) (ev_var 3 rfl (by simp))) eva_nil))))) ?b1) (by split <;> rfl), ?_⟩
    case b1 =>
      unfold fillK
      congr 1
      rw [List.isEmpty_map]
    split
    · refine ⟨.inr x, encL (partsOf ms asked x), [], ev_var 3 rfl (by simp [keyD]), ev_dget (k := .inr x) hlook (ev_var 2 rfl (by simp)) (ev_var 3 rfl (by simp)), ?_⟩
      rename_i hk
      rw [setsD_put, ht, List.filter_append, List.map_append]
      · simp [hk]
      · rw [List.map_map]
        intro q
        obtain ⟨y, hy, q⟩ := List.mem_map.mp q
        have q : y = x := q
        subst q
        exact not_in_take nd ex (List.mem_filter.mp hy).1
    · rename_i hk
      refine ⟨rfl, ?_⟩
      rw [ht, List.filter_append]
      simp [hk]
  case a3 =>
    rw [hT]
    rfl
abbrev s_fnames : Stmt := top 31
theorem sc_fnames : FnScope ["book", "names"] ["book", "names"] (C8.fnScope s_fnames) := C8.fnScope_by (by decide +kernel)
theorem len_N {R : List D → List D → Prop} {n : Nat} (hR : ∀ ds d, R ds d → ds.length = n) : ∀ vs H Q E, spN R vs H Q E → vs.length = n := fun vs H Q E h => by
  obtain ⟨z, ds, es, _, x, r, _⟩ := h
  rw [x.len]
  exact hR _ _ r
theorem asked_nodup {ms : List (Str × List Str)} (h : (ms.map (·.1)).Nodup) (xs : List Str) : (askedOf ms xs).Nodup := h.filter _
theorem asked_in {ms : List (Str × List Str)} {xs : List Str} {x : Str} (h : x ∈ askedOf ms xs) : x ∈ ms.map (·.1) := (List.mem_filter.mp h).1
theorem fn_fnames {C f : Addr} {fd : FuncData} (Fd : C8.Def K mg "filled_names" s_fnames f fd) (T : Bi mg) (c_fparts : C8.Cal P w K mg base 3 "filled_parts" (spF (R_fparts C)) []) (c_asked : C8.Cal P w K mg base 3 "asked_names" (spF (R_asked C)) []) : FnOk P w K mg base C8.CX0 4 f fd ["book", "names"] (spN (R_fnames C)) := by
  refine C8.fn0 Fd.fn sc_fnames (len_N fun ds d h => by cases h; rfl) fun cdv A outer s H vs Q E hr h => ?_
  refine ⟨_, (pss_one (ps_ret (pe_callTy (call_listD rfl) (by rfl) T.b_list (by decide +kernel) (pa_cons (C8.pe_c c_fparts hr (by decide) rfl (pa_cons (pv 0) (pa_cons (C8.pe_c c_asked hr (by decide) rfl (pa_cons (pv 0) (pa_cons (pv 1) pa_nil))) pa_nil))) pa_nil)))), run_N h ?_⟩
  rintro _ _ ⟨cs, ms, xs, dl, hd, nd, hin, hl, hn⟩ F -
  refine ⟨0, [.lst ((setsD (fillT cs ms (askedOf ms xs))).map fun e => keyD e.1)], by rw [setsD_keys]; rfl, ws_ret (ev_listDO (eva_cons (ev_callF (ds := [.ins C (bkF cs ms), encL (askedOf ms xs)]) (R_fparts.mk cs ms _ (asked_nodup hn xs) (fun x h => asked_in h) hl) (eva_cons (ev_var 0 rfl (by simp)) (eva_cons (ev_callF (ds := [.ins C (bkF cs ms), dl]) (R_asked.mk cs ms xs dl hd nd hin hl) (eva_cons (ev_var 0 rfl (by simp)) (eva_cons (ev_var 1 rfl (by simp)) eva_nil))) eva_nil))) eva_nil) 0 rfl)⟩
theorem ok_fnames {C f : Addr} {fd : FuncData} (Fd : C8.Def K mg "filled_names" s_fnames f fd) (b : Binds K fd ["book", "names"] []) (T : Bi mg) (c_fparts : C8.Cal P w K mg base 3 "filled_parts" (spF (R_fparts C)) []) (c_asked : C8.Cal P w K mg base 3 "asked_names" (spF (R_asked C)) []) : C8.Cal P w K mg base 4 "filled_names" (spN (R_fnames C)) [] :=
  ⟨f, fd, _, [], fn_fnames Fd T c_fparts c_asked, Fd.mgf, Fd.kp, b, .nil⟩
theorem okK_fnames {C f : Addr} {fd : FuncData} (Fd : C8.Def K mg "filled_names" s_fnames f fd) (bk : ∀ (s : Shared) (a b : Value), BindsTo s fd ⟨[], [("names", a), ("book", b)]⟩ ((["book", "names"] : List Str).zip [b, a])) (T : Bi mg) (c_fparts : C8.Cal P w K mg base 3 "filled_parts" (spF (R_fparts C)) []) (c_asked : C8.Cal P w K mg base 3 "asked_names" (spF (R_asked C)) []) : CalK2 P w K mg base 4 "filled_names" "names" "book" (spN (R_fnames C)) :=
  ⟨f, fd, _, fn_fnames Fd T c_fparts c_asked, Fd.mgf, Fd.kp, bk⟩
end
end Dl
end
section
set_option Elab.async false
set_option maxRecDepth 100000
set_option maxHeartbeats 4000000
set_option linter.all false
namespace Dl
open PySem L2 ClX
/-! ### letters: possible ones -/
inductive R_letter : List D → D → Prop
  | mk (asked v : List Str) (ha : asked.length ≤ 1000) (hv : v.length ≤ 1000) : R_letter [encL asked, encT v] (.bl (decide (v = asked.filter fun n => decide (n ∈ v))))
def agreeE (v : List Str) (e : Str × List Str) : Bool := !(decide (e.1 ∈ v) && decide ((e.2.filter fun p => decide (p ∈ v)).length = 0)) && !(!decide (e.1 ∈ v) && decide ((e.2.filter fun p => decide (p ∈ v)).length = e.2.length))
inductive R_agrees : List D → D → Prop
  | mk (ft : List (Str × List Str)) (v : List Str) (nd : (ft.map (·.1)).Nodup) (h : ∀ e ∈ ft, e.2.length ≤ 1000) (hl : ft.length ≤ 1000) : R_agrees [.dic (setsD ft), encT v] (.bl (ft.all (agreeE v)))
theorem first_bad {α : Type} (p : α → Bool) : ∀ xs : List α, xs.all p = false → ∃ (n : Nat) (e : α), xs[n]? = some e ∧ p e = false ∧ ∀ i < n, ∀ e', xs[i]? = some e' → p e' = true
  | [], h => by cases h
  | x :: xs, h => by
    cases hx : p x with
    | false => exact ⟨0, x, rfl, hx, fun i hi => absurd hi (Nat.not_lt_zero _)⟩
    | true =>
      rw [List.all_cons, hx, Bool.true_and] at h
      obtain ⟨n, e, h1, h2, h3⟩ := first_bad p xs h
      refine ⟨n + 1, e, by simpa using h1, h2, fun i hi e' he' => ?_⟩
      cases i with
      | zero =>
        have : x = e' := by simpa using he'
        rw [← this]
        exact hx
      | succ i => exact h3 i (by omega) e' (by simpa using he')
section
variable {P : Program} {w : World} {K : PySem.W.Frag} {mg : Str → Option Value} {base : Heap}
abbrev s_letter : Stmt := top 37
abbrev N_letter : List Str := ["asked", "value", "name"]
theorem sc_letter : FnScope N_letter ["asked", "value"] (C8.fnScope s_letter) := C8.fnScope_by (by decide +kernel)
theorem ok_letter {f : Addr} {fd : FuncData} (Fd : C8.Def K mg "is_letter_of" s_letter f fd) (b : Binds K fd ["asked", "value"] []) (T : Bi mg) : C8.Cal P w K mg base 1 "is_letter_of" (spF R_letter) [] := by
  refine C8.cal0 Fd b .nil sc_letter (len_F fun ds d h => by cases h; rfl) fun cdv A outer s H vs Q E hr h => ?_
  refine ⟨_, (pss_cons (ps_if (PW.pt (pw_or (pt_not (pt_val (pe_callB (k_isi rfl) (by rfl) T.b_isinstance PyProof.Rows.boot_isinstance (pa_cons (pv 1) (pa_cons (pe_bltn (v := .ty "tuple") (u := .type "tuple") (by rfl) T.b_tuple (by decide +kernel) rfl) pa_nil))))) (pw_or1 (pt_not (pt_val (pe_callB (k_all rfl rfl) (by rfl) T.b_all (by decide +kernel) (pa_cons (pe_lc (own := [("name", 2)]) (g := gName 2) (tt := tYes) rfl sc_letter.nd (pi_tup (pv 1)) (blkOk_by (N := N_letter) (sc := C8.fnScope s_letter) (by decide +kernel)) (fun _ _ _ _ _ => (pg_name (i := 2) sc_letter.nd rfl (by first | exact Or.inl rfl | exact Or.inr rfl))) (fun _ _ _ _ _ => pts_nil)
      (fun _ _ _ _ _ => (pe_callB (k_isi rfl) (by rfl) T.b_isinstance PyProof.Rows.boot_isinstance (pa_cons (pv 2) (pa_cons (pe_bltn (v := .ty "str") (u := .type "str") (by rfl) T.b_str (by decide +kernel) rfl) pa_nil))))) pa_nil)))))))
      (pss_one (ps_ret pe_bl)) pss_nil)
    (pss_one (ps_ret (pe_cmpR (k_eqD rfl (lt_u64 (k := 0) hr.un)) (pe_callTy (k_list rfl) (by rfl) T.b_list (by decide +kernel) (pa_cons (pv 1) pa_nil)) (pe_lc (own := [("name", 2)]) (g := gName 2) rfl sc_letter.nd (pi_list (pv 0)) (blkOk_by (N := N_letter) (sc := C8.fnScope s_letter) (by decide +kernel)) (fun _ _ _ _ _ => (pg_name (i := 2) sc_letter.nd rfl (by first | exact Or.inl rfl | exact Or.inr rfl)))
      (fun _ _ _ _ _ => (pts_one (pt_cmpR (k_in rfl) (pv 2) (pv 1) (by rfl)))) (fun _ _ _ _ _ => (pv 2))) (nomark _))))), run_F h ?_⟩
  rintro _ _ ⟨asked, v, ha, hv⟩ F -
  refine ⟨_, .rt [], ?_⟩
  have h2 : ∀ i ∈ ([2] : List Nat), ([.dat (encL asked), .dat (encT v), .un] : List Slot)[i]? = some .un := fun i hi => by
    cases List.mem_singleton.mp hi
    rfl
  refine ws_seq (ws_if (b := false) (ev_tmu (μ2 := []) (ev_teq (evt_or (evt_not (evt_val (ev_isi (t := "tuple") (b := true) rfl (by decide +kernel) (ev_var 1 rfl (by simp))))) fun _ => (evt_not (evt_val (ev_allF (α := Str) (enc := .str) (xs := v) (q := fun _ => true) (evi_tup (ev_var 1 rfl (by simp))) h2 (by omega) (fun F' z => evg_name 2) (fun F' z hx => ev_isi (t := "str") (b := true) rfl (by decide +kernel) (ev_var 2 rfl (by simp)))))) ) ?a1) (by split <;> rfl)) (fun e => by cases e) (fun _ => ws_next)) ?_
  case a1 => simp
  exact ws_ret (ev_op (opd_eqStrs (xs := v)) (ev_cb (ds := [encT v]) (cd_list (.inr rfl)) (eva_cons (ev_var 1 rfl (by simp)) eva_nil)) (ev_lcF (α := Str) (enc := .str) (xs := asked) (p := fun n => decide (n ∈ v)) (f := .str) (evi_list (ev_var 0 rfl (by simp))) h2 (by omega) (fun F' a => evg_name 2) (fun F' a _ => evt_test (ev_op opd_inT (ev_var 2 rfl (by simp)) (ev_var 1 rfl (by simp)))) (fun F' a _ _ => ev_var 2 rfl (by simp))))
abbrev s_agrees : Stmt := top 38
abbrev N_agrees : List Str := ["filled", "letter", "name", "falling", "part"]
theorem sc_agrees : FnScope N_agrees ["filled", "letter"] (C8.fnScope s_agrees) := C8.fnScope_by (by decide +kernel)
theorem ok_agrees {f : Addr} {fd : FuncData} (Fd : C8.Def K mg "agrees" s_agrees f fd) (b : Binds K fd ["filled", "letter"] []) (T : Bi mg) : C8.Cal P w K mg base 1 "agrees" (spF R_agrees) [] := by
  refine C8.cal0 Fd b .nil sc_agrees (len_F fun ds d h => by cases h; rfl) fun cdv A outer s H vs Q E hr h => ?_
  refine ⟨_, (pss_cons (ps_le (ps_for PassesOwn.never rfl (pi_keys (pv 0)) (pg_name (i := 2) sc_agrees.nd rfl (by first | exact Or.inl rfl | exact Or.inr rfl))
      (pss_cons (ps_setLc (i := 3) (own := [("part", 4)]) (g := gName 4) rfl sc_agrees.nd rfl rfl (sw_true rfl rfl rfl (by decide +kernel)) (pi_list (pe_dget (lt_units (k := 0) hr.un) (pv 0) (pv 2) (fun _ _ => rfl))) (blkOk_by (N := N_agrees) (sc := C8.fnScope s_agrees) (by decide +kernel)) (fun _ _ _ _ _ => (pg_name (i := 4) sc_agrees.nd rfl (by first | exact Or.inl rfl | exact Or.inr rfl))) (fun _ _ _ _ _ => (pts_one (pt_cmpR (k_in rfl) (pv 4) (pv 1) (by rfl)))) (fun _ _ _ _ _ => (pv 4)))
      (pss_cons (ps_if (PW.pt (pw_and (pt_cmpR (k_in rfl) (pv 2) (pv 1) (by rfl)) (pw_and1 (pt_cmpR op_eq (pe_callB (k_len rfl) (by rfl) T.b_len PySem.boot_len (pa_cons (pv 3) pa_nil)) pe_int (nomark _))))) (pss_one (ps_ret pe_bl)) pss_nil)
      (pss_one (ps_if (PW.pt (pw_and (pt_cmpR (k_notIn rfl) (pv 2) (pv 1) (by rfl)) (pw_and1 (pt_cmpR op_eq (pe_callB (k_len rfl) (by rfl) T.b_len PySem.boot_len (pa_cons (pv 3) pa_nil)) (pe_callB (k_len rfl) (by rfl) T.b_len PySem.boot_len (pa_cons (pe_dget (lt_units (k := 0) hr.un) (pv 0) (pv 2) (fun _ _ => rfl)) pa_nil)) (nomark _))))) (pss_one (ps_ret pe_bl)) pss_nil))))))
    (pss_one (ps_ret pe_bl))), run_F h ?_⟩
  rintro _ _ ⟨ft, v, nd, he, hl⟩ F -
  have key : ∀ (i : Nat) d, ((setsD ft).map fun e => keyD e.1)[i]? = some d → ∃ e : Str × List Str, ft[i]? = some e ∧ d = .str e.1 ∧ lookD (setsD ft) (.inr e.1) = some (encL e.2) ∧ e.2.length ≤ 1000 := by
    intro i d hd
    rw [setsD_keys, List.getElem?_map, List.getElem?_map] at hd
    obtain ⟨x, ex, rfl⟩ := Option.map_eq_some_iff.mp hd
    obtain ⟨e, ee, rfl⟩ := Option.map_eq_some_iff.mp ex
    exact ⟨e, ee, rfl, look_nodup nd ee, he e (List.mem_of_getElem? ee)⟩
  have hlen : ((setsD ft).map fun e => keyD e.1).length = ft.length := by unfold setsD; rw [List.length_map, List.length_map]
  have lm : ∀ xs : List Str, (((xs.map D.str).length : Nat) : Int) = (xs.length : Nat) := fun xs => by rw [List.length_map]
  let ff : Str × List Str → List Str := fun e => e.2.filter fun p => decide (p ∈ v)
  have h4 : ∀ e : Str × List Str, ∀ i ∈ ([4] : List Nat), ([.dat (.dic (setsD ft)), .dat (encT v), .dat (.str e.1), .un, .un] : List Slot)[i]? = some .un := fun e i hi => by
    cases List.mem_singleton.mp hi
    rfl
  let S : Nat → List Slot × List Cell := fun _ => ([.dat (.dic (setsD ft)), .dat (encT v), .un, .un, .un], [])
  have d1 : ∀ e : Str × List Str, (decide (e.1 ∈ v) && decide ((((ff e).map D.str).length : Int) = 0)) = (decide (e.1 ∈ v) && decide ((ff e).length = 0)) := fun e => by
    congr 1
    rw [lm]
    exact decide_eq_decide.mpr (by omega)
  have d2 : ∀ e : Str × List Str, (!decide (e.1 ∈ v) && decide ((((ff e).map D.str).length : Int) = ((e.2.map D.str).length : Nat))) = (!decide (e.1 ∈ v) && decide ((ff e).length = e.2.length)) := fun e => by
    congr 1
    rw [lm, lm]
    exact decide_eq_decide.mpr (by omega)
  by_cases hall : ft.all (agreeE v) = true
  · rw [hall]
    refine ⟨_, .rt [], ?_⟩
    refine ws_seq (ρ1 := (S 0).1) (μ1 := (S 0).2) (ws_lock (evp_var 0 rfl) fun F as σ H p kvs o L => ws_for_atN ft.length [2] S (evi_keys_at L) rfl hlen ?turn) (ws_ret (ev_bl true))
    intro i d hd
    obtain ⟨e, ee, rfl, hlook, hel⟩ := key i d hd
    have ha : agreeE v e = true := List.all_eq_true.mp hall e (List.mem_of_getElem? ee)
    unfold agreeE at ha
    obtain ⟨a1, a2⟩ := Bool.and_eq_true_iff.mp ha
    refine ⟨_, evg_name 2, .inl (ws_weak (ρ1 := [.dat (.dic (setsD ft)), .dat (encT v), .dat (.str e.1), .dat (encL (ff e)), .un]) ?_ ?_)⟩
    rotate_left
    · repeat first | exact .nil | refine .cons (.inl rfl) ?_ | refine .cons (.inr rfl) ?_
    refine ws_seq (ρ1 := [.dat (.dic (setsD ft)), .dat (encT v), .dat (.str e.1), .dat (encL (ff e)), .un]) (μ1 := []) (ws_set 3 (ev_lcF (α := Str) (enc := .str) (xs := e.2) (p := fun p => decide (p ∈ v)) (f := .str) (evi_list (ev_dget (k := .inr e.1) hlook (ev_var 0 rfl (by simp)) (ev_var 2 rfl (by simp)))) (h4 e) (by omega) (fun F' a => evg_name 4) (fun F' a _ => evt_test (ev_op opd_inT (ev_var 4 rfl (by simp)) (ev_var 1 rfl (by simp)))) (fun F' a _ _ => ev_var 4 rfl (by simp)))) ?_
    refine ws_seq (ws_if (b := false) (ev_tmu (μ2 := []) (ev_teq (evt_and (evt_test (ev_op opd_inT (ev_var 2 rfl (by simp)) (ev_var 1 rfl (by simp)))) fun _ => evt_test (ev_op opd_eqI (ev_cb (ds := [encL (ff e)]) cd_len (eva_cons (ev_var 3 rfl (by simp)) eva_nil)) (ev_int _))) (by rw [d1]; exact (Bool.not_eq_true' _).mp a1)) (by split <;> rfl)) (fun e => by cases e) (fun _ => ws_next)) ?_
    exact ws_if (b := false) (ev_tmu (μ2 := []) (ev_teq (evt_and (evt_test (ev_op opd_notinT (ev_var 2 rfl (by simp)) (ev_var 1 rfl (by simp)))) fun _ => evt_test (ev_op opd_eqI (ev_cb (ds := [encL (ff e)]) cd_len (eva_cons (ev_var 3 rfl (by simp)) eva_nil)) (ev_cb (ds := [encL e.2]) cd_len (eva_cons (ev_dget (k := .inr e.1) hlook (ev_var 0 rfl (by simp)) (ev_var 2 rfl (by simp))) eva_nil)))) (by rw [d2]; exact (Bool.not_eq_true' _).mp a2)) (by split <;> rfl)) (fun e => by cases e) (fun _ => ws_next)
  · have hall : ft.all (agreeE v) = false := by simpa using hall
    rw [hall]
    refine ⟨_, .rt [], ?_⟩
    obtain ⟨n, e, en, hf, hbefore⟩ := first_bad _ _ hall
    have hn : n < ft.length := (List.getElem?_eq_some_iff.mp en).1
    refine ws_seq_rt (ws_lock (evp_var 0 rfl) fun F as σ H p kvs o L => ws_for_rt_at (vs := [2]) (n := n) (evi_keys_at L) S rfl (by rw [hlen]; exact hn) ?tA ?tB)
    case tA =>
      intro i d hi hd
      obtain ⟨e, ee, rfl, hlook, hel⟩ := key i d hd
      have ha : agreeE v e = true := hbefore i hi e ee
      unfold agreeE at ha
      obtain ⟨a1, a2⟩ := Bool.and_eq_true_iff.mp ha
      refine ⟨_, evg_name 2, .inl (ws_weak (ρ1 := [.dat (.dic (setsD ft)), .dat (encT v), .dat (.str e.1), .dat (encL (ff e)), .un]) ?_ ?_)⟩
      rotate_left
      · repeat first | exact .nil | refine .cons (.inl rfl) ?_ | refine .cons (.inr rfl) ?_
      refine ws_seq (ρ1 := [.dat (.dic (setsD ft)), .dat (encT v), .dat (.str e.1), .dat (encL (ff e)), .un]) (μ1 := []) (ws_set 3 (ev_lcF (α := Str) (enc := .str) (xs := e.2) (p := fun p => decide (p ∈ v)) (f := .str) (evi_list (ev_dget (k := .inr e.1) hlook (ev_var 0 rfl (by simp)) (ev_var 2 rfl (by simp)))) (h4 e) (by omega) (fun F' a => evg_name 4) (fun F' a _ => evt_test (ev_op opd_inT (ev_var 4 rfl (by simp)) (ev_var 1 rfl (by simp)))) (fun F' a _ _ => ev_var 4 rfl (by simp)))) ?_
      refine ws_seq (ws_if (b := false) (ev_tmu (μ2 := []) (ev_teq (evt_and (evt_test (ev_op opd_inT (ev_var 2 rfl (by simp)) (ev_var 1 rfl (by simp)))) fun _ => evt_test (ev_op opd_eqI (ev_cb (ds := [encL (ff e)]) cd_len (eva_cons (ev_var 3 rfl (by simp)) eva_nil)) (ev_int _))) (by rw [d1]; exact (Bool.not_eq_true' _).mp a1)) (by split <;> rfl)) (fun e => by cases e) (fun _ => ws_next)) ?_
      exact ws_if (b := false) (ev_tmu (μ2 := []) (ev_teq (evt_and (evt_test (ev_op opd_notinT (ev_var 2 rfl (by simp)) (ev_var 1 rfl (by simp)))) fun _ => evt_test (ev_op opd_eqI (ev_cb (ds := [encL (ff e)]) cd_len (eva_cons (ev_var 3 rfl (by simp)) eva_nil)) (ev_cb (ds := [encL e.2]) cd_len (eva_cons (ev_dget (k := .inr e.1) hlook (ev_var 0 rfl (by simp)) (ev_var 2 rfl (by simp))) eva_nil)))) (by rw [d2]; exact (Bool.not_eq_true' _).mp a2)) (by split <;> rfl)) (fun e => by cases e) (fun _ => ws_next)
    case tB =>
      intro d hd
      obtain ⟨e', ee, rfl, hlook, hel⟩ := key n d hd
      rw [en] at ee
      cases ee
      refine ⟨_, evg_name 2, ?_⟩
      show Ws F _ [.dat (.dic (setsD ft)), .dat (encT v), .dat (.str e.1), .un, .un] [] _
      refine ws_seq (ρ1 := [.dat (.dic (setsD ft)), .dat (encT v), .dat (.str e.1), .dat (encL (ff e)), .un]) (μ1 := []) (ws_set 3 (ev_lcF (α := Str) (enc := .str) (xs := e.2) (p := fun p => decide (p ∈ v)) (f := .str) (evi_list (ev_dget (k := .inr e.1) hlook (ev_var 0 rfl (by simp)) (ev_var 2 rfl (by simp)))) (h4 e) (by omega) (fun F' a => evg_name 4) (fun F' a _ => evt_test (ev_op opd_inT (ev_var 4 rfl (by simp)) (ev_var 1 rfl (by simp)))) (fun F' a _ _ => ev_var 4 rfl (by simp)))) ?_
      cases c1 : (decide (e.1 ∈ v) && decide ((ff e).length = 0)) with
      | true =>
        exact ws_seq_rt (ws_if (b := true) (ev_tmu (μ2 := []) (ev_teq (evt_and (evt_test (ev_op opd_inT (ev_var 2 rfl (by simp)) (ev_var 1 rfl (by simp)))) fun _ => evt_test (ev_op opd_eqI (ev_cb (ds := [encL (ff e)]) cd_len (eva_cons (ev_var 3 rfl (by simp)) eva_nil)) (ev_int _))) (by rw [d1]; exact c1)) (by split <;> rfl)) (fun _ => ws_ret (ev_bl false)) (fun e => by cases e))
      | false =>
        have c2 : (!decide (e.1 ∈ v) && decide ((ff e).length = e.2.length)) = true := by
          have hf : (!(decide (e.1 ∈ v) && decide ((ff e).length = 0)) && !(!decide (e.1 ∈ v) && decide ((ff e).length = e.2.length))) = false := hf
          rw [c1] at hf
          simpa using hf
        refine ws_seq (ws_if (b := false) (ev_tmu (μ2 := []) (ev_teq (evt_and (evt_test (ev_op opd_inT (ev_var 2 rfl (by simp)) (ev_var 1 rfl (by simp)))) fun _ => evt_test (ev_op opd_eqI (ev_cb (ds := [encL (ff e)]) cd_len (eva_cons (ev_var 3 rfl (by simp)) eva_nil)) (ev_int _))) (by rw [d1]; exact c1)) (by split <;> rfl)) (fun e => by cases e) (fun _ => ws_next)) ?_
        exact ws_if (b := true) (ev_tmu (μ2 := []) (ev_teq (evt_and (evt_test (ev_op opd_notinT (ev_var 2 rfl (by simp)) (ev_var 1 rfl (by simp)))) fun _ => evt_test (ev_op opd_eqI (ev_cb (ds := [encL (ff e)]) cd_len (eva_cons (ev_var 3 rfl (by simp)) eva_nil)) (ev_cb (ds := [encL e.2]) cd_len (eva_cons (ev_dget (k := .inr e.1) hlook (ev_var 0 rfl (by simp)) (ev_var 2 rfl (by simp))) eva_nil)))) (by rw [d2]; exact c2)) (by split <;> rfl)) (fun _ => ws_ret (ev_bl false)) (fun e => by cases e)
end
end Dl
end
section
set_option Elab.async false
set_option maxRecDepth 100000
set_option maxHeartbeats 4000000
set_option linter.all false
namespace Dl
open PySem L2 ClX
inductive R_poss (C : Addr) : List D → D → Prop
  | mk (cs : List Str) (ms : List (Str × List Str)) (xs v : List Str) (dl : D) (hd : dl = encL xs ∨ dl = encT xs) (nd : xs.Nodup) (hin : ∀ x ∈ xs, x ∈ ms.map (·.1)) (hl : ms.length ≤ 1000) (hn : (ms.map (·.1)).Nodup) (hv : v = (askedOf ms xs).filter fun n => decide (n ∈ v)) : R_poss C [.ins C (bkF cs ms), dl, encT v] (.bl ((fillT cs ms (askedOf ms xs)).all (agreeE v)))
theorem fillT_fst (cs : List Str) (ms : List (Str × List Str)) (asked : List Str) : (fillT cs ms asked).map (·.1) = asked.filter (fillK cs ms asked) := by
  unfold fillT
  rw [List.map_map]
  exact List.map_id _
theorem asked_len {ms : List (Str × List Str)} {xs : List Str} (hl : ms.length ≤ 1000) : (askedOf ms xs).length ≤ 1000 := by
  refine Nat.le_trans (List.length_filter_le _ _) ?_
  rw [List.length_map]
  exact hl
section
variable {P : Program} {w : World} {K : PySem.W.Frag} {mg : Str → Option Value} {base : Heap}
abbrev s_poss : Stmt := top 32
abbrev N_poss : List Str := ["book", "names", "letter", "asked"]
theorem sc_poss : FnScope N_poss ["book", "names", "letter"] (C8.fnScope s_poss) := C8.fnScope_by (by decide +kernel)
theorem ok_poss {C f : Addr} {fd : FuncData} (Fd : C8.Def K mg "is_possible" s_poss f fd) (b : Binds K fd ["book", "names", "letter"] []) (c_asked : C8.Cal P w K mg base 3 "asked_names" (spF (R_asked C)) []) (c_letter : C8.Cal P w K mg base 1 "is_letter_of" (spF R_letter) []) (c_fparts : C8.Cal P w K mg base 3 "filled_parts" (spF (R_fparts C)) []) (c_agrees : C8.Cal P w K mg base 1 "agrees" (spF R_agrees) []) : C8.Cal P w K mg base 4 "is_possible" (spF (R_poss C)) [] := by
  refine C8.cal0 Fd b .nil sc_poss (len_F fun ds d h => by cases h; rfl) fun cdv A outer s H vs Q E hr h => ?_
  refine ⟨_, (pss_cons (ps_set (i := 3) sc_poss.nd rfl (by first | exact Or.inl rfl | exact Or.inr rfl) (C8.pe_c c_asked hr (by decide) rfl (pa_cons (pv 0) (pa_cons (pv 1) pa_nil))))
    (pss_cons (ps_if (pt_not (pt_val (C8.pe_c c_letter hr (by decide) rfl (pa_cons (pv 3) (pa_cons (pv 2) pa_nil))))) (pss_one ps_never) pss_nil)
    (pss_one (ps_ret (C8.pe_c c_agrees hr (by decide) rfl (pa_cons (C8.pe_c c_fparts hr (by decide) rfl (pa_cons (pv 0) (pa_cons (pv 3) pa_nil))) (pa_cons (pv 2) pa_nil))))))), run_F h ?_⟩
  rintro _ _ ⟨cs, ms, xs, v, dl, hd, nd, hin, hl, hn, hv⟩ F -
  have hal := asked_len (xs := xs) hl
  have hvl : v.length ≤ 1000 := by
    rw [hv]
    exact Nat.le_trans (List.length_filter_le _ _) hal
  have hand := asked_nodup hn xs
  refine ⟨_, .rt [], ?_⟩
  refine ws_seq (ws_set 3 (ev_callF (ds := [.ins C (bkF cs ms), dl]) (R_asked.mk cs ms xs dl hd nd hin hl) (eva_cons (ev_var 0 rfl (by simp)) (eva_cons (ev_var 1 rfl (by simp)) eva_nil)))) ?_
  refine ws_seq (ws_if (b := false) (ev_teq (evt_not (evt_val (ev_callF (ds := [encL (askedOf ms xs), encT v]) (R_letter.mk _ _ hal hvl) (eva_cons (ev_var 3 rfl (by simp)) (eva_cons (ev_var 2 rfl (by simp)) eva_nil))))) (by rw [decide_eq_true hv]; rfl)) (fun e => by cases e) (fun _ => ws_next)) ?_
  refine ws_ret (ev_callF (ds := [.dic (setsD (fillT cs ms (askedOf ms xs))), encT v]) (R_agrees.mk _ _ ?a1 ?a2 ?a3) (eva_cons (ev_callF (ds := [.ins C (bkF cs ms), encL (askedOf ms xs)]) (R_fparts.mk cs ms _ hand (fun x h => asked_in h) hl) (eva_cons (ev_var 0 rfl (by simp)) (eva_cons (ev_var 3 rfl (by simp)) eva_nil))) (eva_cons (ev_var 2 rfl (by simp)) eva_nil)))
  case a1 => rw [fillT_fst]; exact hand.filter _
  case a2 =>
    intro e he
    obtain ⟨a, _, rfl⟩ := List.mem_map.mp he
    exact Nat.le_trans (List.length_filter_le _ _) hal
  case a3 =>
    unfold fillT
    rw [List.length_map]
    exact Nat.le_trans (List.length_filter_le _ _) hal
end
end Dl
end
section
set_option Elab.async false
set_option maxRecDepth 100000
set_option maxHeartbeats 4000000
set_option linter.all false
namespace Dl
open PySem L2
/-! ### the book's table and the model -/
theorem table_keys (M : Mdl) : (bookT M.sgl M.sets).map (·.1) = M.labels := by
  unfold bookT Mdl.labels
  rw [List.map_append, List.map_map, List.map_map]
  have e1 : M.sgl.map ((fun x : Str × List Str => x.1) ∘ fun c => (c, [c])) = M.sgl := List.map_id _
  have e2 : (sortS (M.sets.map (·.1))).map ((fun x : Str × List Str => x.1) ∘ fun n => (n, lookG (M.sets.map (sortG M.sgl)) n)) = sortS (M.sets.map (·.1)) := List.map_id _
  rw [e1, e2]
theorem find_app {α : Type} {p : α → Bool} (xs ys : List α) : (xs ++ ys).find? p = (xs.find? p).or (ys.find? p) := List.find?_append
theorem find_map_key {β : Type} (f : Str → β) (l : Str) : ∀ xs : List Str, (xs.map fun c => (c, f c)).find? (fun e => decide (e.1 = l)) = if l ∈ xs then some (l, f l) else none
  | [] => by simp
  | x :: xs => by
    rw [List.map_cons, List.find?_cons]
    by_cases e : x = l
    · subst e
      simp
    · rw [show decide ((x, f x).1 = l) = false by simpa using e, find_map_key f l xs]
      have : (l ∈ x :: xs) ↔ l ∈ xs := ⟨fun h => by
        rcases List.mem_cons.mp h with rfl | h
        · exact absurd rfl e
        · exact h, fun h => List.mem_cons_of_mem _ h⟩
      by_cases h : l ∈ xs
      · rw [if_pos h, if_pos (this.mpr h)]
      · rw [if_neg h, if_neg (fun q => h (this.mp q))]
theorem table_look {M : Mdl} (h : M.Lam) {l : Str} (hl : l ∈ M.labels) : lookG (bookT M.sgl M.sets) l = M.mem l := by
  unfold lookG bookT Mdl.mem
  rw [find_app, find_map_key (fun c => [c]), find_map_key (fun n => lookG (M.sets.map (sortG M.sgl)) n), sort_self h]
  by_cases h1 : l ∈ M.sgl
  · rw [if_pos h1]
    have : M.sets.find? (fun e => decide (e.1 = l)) = none := List.find?_eq_none.mpr fun e he q => (h.lbl e he).2 (by
      have q : e.1 = l := by simpa using q
      rw [q]
      exact h1)
    rw [this]
    rfl
  · rw [if_neg h1]
    have h2 : l ∈ sortS (M.sets.map (·.1)) := by
      rcases List.mem_append.mp hl with q | q
      · exact absurd q h1
      · exact q
    rw [if_pos h2]
    have h3 : l ∈ M.sets.map (·.1) := (List.mergeSort_perm _ _).mem_iff.mp h2
    obtain ⟨e, he, q⟩ := List.mem_map.mp h3
    show lookG M.sets l = _
    unfold lookG
    cases hf : M.sets.find? fun e => decide (e.1 = l) with
    | none => exact absurd (List.find?_eq_none.mp hf e he) (by simpa using q)
    | some x => rfl
theorem labels_nodup {M : Mdl} (h : M.Lam) : M.labels.Nodup := by
  unfold Mdl.labels
  have hp : (sortS (M.sets.map (·.1))).Perm (M.sets.map (·.1)) := List.mergeSort_perm _ _
  refine List.nodup_append.mpr ⟨h.nd, (hp.nodup_iff).mpr h.keys, fun a ha b hb e => ?_⟩
  subst e
  obtain ⟨x, hx, q⟩ := List.mem_map.mp (hp.mem_iff.mp hb)
  exact (h.lbl x hx).2 (by rw [show x.1 = a from q]; exact ha)
end Dl
end
section
set_option Elab.async false
set_option maxRecDepth 100000
set_option maxHeartbeats 4000000
set_option linter.all false
namespace Dl
open PySem L2
/-! ### parts cover what all inner names cover -/
theorem mem_single {M : Mdl} (h : M.Lam) {l : Str} (hl : l ∈ M.sgl) : M.mem l = [l] := by
  unfold Mdl.mem
  have : M.sets.find? (fun e => decide (e.1 = l)) = none := List.find?_eq_none.mpr fun e he q => (h.lbl e he).2 (by
    have q : e.1 = l := by simpa using q
    rw [q]
    exact hl)
  rw [this]
  rfl
theorem mem_set {M : Mdl} (h : M.Lam) {e : Str × List Str} (he : e ∈ M.sets) : M.mem e.1 = e.2 := by
  obtain ⟨i, hi⟩ := List.mem_iff_getElem?.mp he
  have h1 := look_nodup h.keys hi
  rw [look_sets] at h1
  unfold Mdl.mem
  cases hf : M.sets.find? fun x => decide (x.1 = e.1) with
  | none => rw [hf] at h1; cases h1
  | some x =>
    have hx := List.mem_of_find?_eq_some hf
    have hk : x.1 = e.1 := by simpa using List.find?_some hf
    obtain ⟨j, hj⟩ := List.mem_iff_getElem?.mp hx
    have l1 : (M.sets.map (·.1))[i]? = some e.1 := by rw [List.getElem?_map, hi]; rfl
    have l2 : (M.sets.map (·.1))[j]? = some e.1 := by rw [List.getElem?_map, hj]; exact congrArg some hk
    have := (List.getElem?_inj (List.getElem?_eq_some_iff.mp l1).1 h.keys).mp (l1.trans l2.symm)
    subst this
    rw [hi] at hj
    cases hj
    rfl
theorem label_cases {M : Mdl} {l : Str} (hl : l ∈ M.labels) : l ∈ M.sgl ∨ ∃ e ∈ M.sets, e.1 = l := by
  rcases List.mem_append.mp hl with q | q
  · exact .inl q
  · have h3 : l ∈ M.sets.map (·.1) := (List.mergeSort_perm _ _).mem_iff.mp q
    obtain ⟨e, he, q⟩ := List.mem_map.mp h3
    exact .inr ⟨e, he, q⟩
theorem mem_nodup {M : Mdl} (h : M.Lam) {l : Str} (hl : l ∈ M.labels) : (M.mem l).Nodup ∧ M.mem l ≠ [] := by
  rcases label_cases hl with q | ⟨e, he, rfl⟩
  · rw [mem_single h q]
    exact ⟨by simp, by simp⟩
  · rw [mem_set h he]
    refine ⟨h.bnd e he, fun q => ?_⟩
    have := h.two e he
    rw [q] at this
    simp at this
/-- within means strictly fewer -/
theorem mem_strict {M : Mdl} (h : M.Lam) {m o : Str} (hm : m ∈ M.labels) (ho : o ∈ M.labels) (ne : m ≠ o) (sub : ∀ x ∈ M.mem m, x ∈ M.mem o) : (M.mem m).length < (M.mem o).length := by
  rcases label_cases hm with qm | ⟨e, he, rfl⟩
  · rw [mem_single h qm] at sub ⊢
    have hmo : m ∈ M.mem o := sub m (by simp)
    rcases label_cases ho with qo | ⟨e', he', rfl⟩
    · rw [mem_single h qo] at hmo
      exact absurd (List.mem_singleton.mp hmo) ne
    · rw [mem_set h he']
      have := h.two e' he'
      simp only [List.length_cons, List.length_nil]
      omega
  · rw [mem_set h he] at sub ⊢
    have h2 := h.two e he
    rcases label_cases ho with qo | ⟨e', he', rfl⟩
    · rw [mem_single h qo] at sub
      have := nodup_le (h.bnd e he) (ys := [o]) sub
      simp at this
      omega
    · rw [mem_set h he'] at sub ⊢
      obtain ⟨i, hi⟩ := List.mem_iff_getElem?.mp he
      obtain ⟨j, hj⟩ := List.mem_iff_getElem?.mp he'
      have hil := (List.getElem?_eq_some_iff.mp hi).1
      have hjl := (List.getElem?_eq_some_iff.mp hj).1
      have hiv := (List.getElem?_eq_some_iff.mp hi).2
      have hjv := (List.getElem?_eq_some_iff.mp hj).2
      have grow : (∃ y ∈ e'.2, y ∉ e.2) → e.2.length < e'.2.length := fun ⟨y, hy, hn⟩ => by
        have := nodup_le (xs := y :: e.2) (List.nodup_cons.mpr ⟨hn, h.bnd e he⟩) (ys := e'.2) fun x hx => by
          rcases List.mem_cons.mp hx with rfl | hx
          · exact hy
          · exact sub x hx
        rw [List.length_cons] at this
        omega
      obtain ⟨x0, hx0⟩ := List.exists_mem_of_ne_nil e.2 (fun q => by rw [q] at h2; simp at h2)
      rcases Nat.lt_trichotomy i j with q | q | q
      · have := List.pairwise_iff_getElem.mp h.lam i j hil hjl q
        rw [hiv, hjv] at this
        rcases this with t | t
        · exact grow t.2
        · exact absurd (sub x0 hx0) (t x0 hx0)
      · subst q
        exact absurd (by rw [← hiv, ← hjv]) ne
      · have := List.pairwise_iff_getElem.mp h.lam j i hjl hil q
        rw [hiv, hjv] at this
        rcases this with t | t
        · obtain ⟨y, hy, hn⟩ := t.2
          exact absurd (sub y hy) hn
        · exact absurd hx0 (t x0 (sub x0 hx0))
/-- among inner names that hold c there is one that lies within no other of them -/
theorem greatest {M : Mdl} (h : M.Lam) {inner : List Str} (hin : ∀ m ∈ inner, m ∈ M.labels) {c : Str} : ∀ (k : Nat) {m : Str}, m ∈ inner → c ∈ M.mem m → 100 - (M.mem m).length ≤ k →
    ∃ p ∈ inner, c ∈ M.mem p ∧ ∀ o ∈ inner, ¬ (p ≠ o ∧ ∀ x ∈ M.mem p, x ∈ M.mem o)
  | k, m, hm, hc, hk => by
    by_cases ex : ∃ o ∈ inner, m ≠ o ∧ ∀ x ∈ M.mem m, x ∈ M.mem o
    · obtain ⟨o, ho, ne, sub⟩ := ex
      have hl := mem_strict h (hin m hm) (hin o ho) ne sub
      have h5 := h.small.mem o
      cases k with
      | zero => omega
      | succ k => exact greatest h hin k ho (sub c hc) (by omega)
    · exact ⟨m, hm, hc, fun o ho q => ex ⟨o, ho, q⟩⟩
def Mdl.parts (M : Mdl) (asked : List Str) (l : Str) : List Str := (M.inner asked l).filter fun p => !((M.inner asked l).any fun o => !decide (p = o) && (M.mem p).all fun x => decide (x ∈ M.mem o))
/-- filled by its parts, or by all inner names: the same -/
theorem full_parts {M : Mdl} (h : M.Lam) {asked : List Str} {l : Str} (ha : ∀ m ∈ asked, m ∈ M.labels) (hl : l ∈ M.labels) : M.full asked l = (M.mem l).all fun c => (M.parts asked l).any fun p => decide (c ∈ M.mem p) := by
  have hin : ∀ m ∈ M.inner asked l, m ∈ M.labels := fun m hm => ha m (List.mem_filter.mp hm).1
  have key : ∀ c, c ∈ M.covered asked l ↔ (M.parts asked l).any (fun p => decide (c ∈ M.mem p)) = true := by
    intro c
    unfold Mdl.covered
    rw [List.mem_flatMap, List.any_eq_true]
    constructor
    · rintro ⟨m, hm, hc⟩
      obtain ⟨p, hp, hcp, hn⟩ := greatest h hin 100 hm hc (by omega)
      refine ⟨p, List.mem_filter.mpr ⟨hp, ?_⟩, decide_eq_true hcp⟩
      rw [Bool.not_eq_true']
      rw [List.any_eq_false]
      intro o ho q
      obtain ⟨q1, q2⟩ := Bool.and_eq_true_iff.mp q
      refine hn o ho ⟨?_, fun x hx => of_decide_eq_true (List.all_eq_true.mp q2 x hx)⟩
      rw [Bool.not_eq_true'] at q1
      exact of_decide_eq_false q1
    · rintro ⟨p, hp, hc⟩
      exact ⟨p, (List.mem_filter.mp hp).1, of_decide_eq_true hc⟩
  unfold Mdl.full
  rw [Bool.eq_iff_iff, Bool.and_eq_true_iff, List.all_eq_true, List.all_eq_true]
  constructor
  · rintro ⟨_, q⟩ c hc
    exact (key c).mp (of_decide_eq_true (q c hc))
  · intro q
    refine ⟨?_, fun c hc => decide_eq_true ((key c).mpr (q c hc))⟩
    obtain ⟨x, hx⟩ := List.exists_mem_of_ne_nil _ (mem_nodup h hl).2
    rw [Bool.not_eq_true']
    refine decide_eq_false fun e => ?_
    have := (key x).mpr (q x hx)
    rw [e] at this
    cases this
end Dl
end
section
set_option Elab.async false
set_option maxRecDepth 100000
set_option maxHeartbeats 4000000
set_option linter.all false
namespace Dl
open PySem L2
/-! ### what the book's parts and filled names are -/
theorem nested {M : Mdl} (h : M.Lam) {m o : Str} (hm : m ∈ M.labels) (ho : o ∈ M.labels) {c : Str} (hcm : c ∈ M.mem m) (hco : c ∈ M.mem o) : (∀ x ∈ M.mem m, x ∈ M.mem o) ∨ (∀ x ∈ M.mem o, x ∈ M.mem m) := by
  rcases label_cases hm with qm | ⟨e, he, rfl⟩
  · left
    rw [mem_single h qm] at hcm ⊢
    intro x hx
    rw [List.mem_singleton.mp hx, ← List.mem_singleton.mp hcm]
    exact hco
  · rcases label_cases ho with qo | ⟨e', he', rfl⟩
    · right
      rw [mem_single h qo] at hco ⊢
      intro x hx
      rw [List.mem_singleton.mp hx, ← List.mem_singleton.mp hco]
      exact hcm
    · rw [mem_set h he] at hcm ⊢
      rw [mem_set h he'] at hco ⊢
      obtain ⟨i, hi⟩ := List.mem_iff_getElem?.mp he
      obtain ⟨j, hj⟩ := List.mem_iff_getElem?.mp he'
      obtain ⟨hil, hiv⟩ := List.getElem?_eq_some_iff.mp hi
      obtain ⟨hjl, hjv⟩ := List.getElem?_eq_some_iff.mp hj
      rcases Nat.lt_trichotomy i j with q | q | q
      · have := List.pairwise_iff_getElem.mp h.lam i j hil hjl q
        rw [hiv, hjv] at this
        rcases this with t | t
        · exact .inl t.1
        · exact absurd hco (t c hcm)
      · subst q
        have : e = e' := by rw [← hiv, ← hjv]
        subst this
        exact .inl fun x hx => hx
      · have := List.pairwise_iff_getElem.mp h.lam j i hjl hil q
        rw [hiv, hjv] at this
        rcases this with t | t
        · exact .inr t.1
        · exact absurd hcm (t c hco)
theorem head_mem {M : Mdl} (h : M.Lam) {l : Str} (hl : l ∈ M.labels) : (M.mem l).headD "" ∈ M.mem l := by
  have := (mem_nodup h hl).2
  cases e : M.mem l with
  | nil => exact absurd e this
  | cons a r => exact List.mem_cons_self
/-- strictly within, by the size and one counter -/
theorem up_iff {M : Mdl} (h : M.Lam) {n g : Str} (hn : n ∈ M.labels) (hg : g ∈ M.labels) : ((M.mem n).length < (M.mem g).length ∧ (M.mem n).headD "" ∈ M.mem g) ↔ (n ≠ g ∧ ∀ x ∈ M.mem n, x ∈ M.mem g) := by
  constructor
  · rintro ⟨h1, h2⟩
    have ne : n ≠ g := fun e => by subst e; omega
    refine ⟨ne, ?_⟩
    rcases nested h hn hg (head_mem h hn) h2 with q | q
    · exact q
    · have := mem_strict h hg hn (Ne.symm ne) q
      omega
  · rintro ⟨ne, sub⟩
    exact ⟨mem_strict h hn hg ne sub, sub _ (head_mem h hn)⟩
abbrev Mdl.ms (M : Mdl) : List (Str × List Str) := bookT M.sgl M.sets
theorem rows_mem {M : Mdl} (h : M.Lam) {e : Str × List Str} : e ∈ sortR (groupRows M.ms) ↔ e.1 ∈ M.labels ∧ 1 < (M.mem e.1).length ∧ e.2 = M.mem e.1 := by
  unfold sortR groupRows
  rw [(List.mergeSort_perm _ _).mem_iff, List.mem_map, table_keys]
  constructor
  · rintro ⟨n, hn, rfl⟩
    obtain ⟨h1, h2⟩ := List.mem_filter.mp hn
    have := table_look h h1
    rw [this] at h2
    exact ⟨h1, of_decide_eq_true h2, this⟩
  · rintro ⟨h1, h2, h3⟩
    have := table_look h h1
    refine ⟨e.1, List.mem_filter.mpr ⟨h1, by rw [this]; exact decide_eq_true h2⟩, ?_⟩
    rw [this, ← h3]
theorem rows_sorted (ms : List (Str × List Str)) : (sortR (groupRows ms)).Pairwise fun a b => a.2.length ≤ b.2.length := by
  unfold sortR
  refine (List.pairwise_mergeSort (le := fun a b : Str × List Str => decide (a.2.length ≤ b.2.length)) (fun a b c h1 h2 => ?_) (fun a b => ?_) _).imp fun {a b} q => of_decide_eq_true q
  · exact decide_eq_true (Nat.le_trans (of_decide_eq_true h1) (of_decide_eq_true h2))
  · rcases Nat.le_total a.2.length b.2.length with q | q
    · simp [q]
    · simp [q]
theorem up_mem {M : Mdl} (h : M.Lam) {asked : List Str} {n g : Str} (hn : n ∈ M.labels) (ha : ∀ m ∈ asked, m ∈ M.labels) : g ∈ upOf M.ms asked n ↔ g ∈ asked ∧ n ≠ g ∧ ∀ x ∈ M.mem n, x ∈ M.mem g := by
  unfold upOf around
  rw [List.mem_filter, List.mem_map, table_look h hn]
  constructor
  · rintro ⟨⟨e, he, rfl⟩, hd⟩
    obtain ⟨h1, h2⟩ := List.mem_filter.mp he
    obtain ⟨r1, r2, r3⟩ := (rows_mem h).mp h1
    rw [r3] at h2
    obtain ⟨q1, q2⟩ := Bool.and_eq_true_iff.mp h2
    exact ⟨of_decide_eq_true hd, (up_iff h hn r1).mp ⟨of_decide_eq_true q1, of_decide_eq_true q2⟩⟩
  · rintro ⟨h1, h2⟩
    have hg := ha g h1
    obtain ⟨q1, q2⟩ := (up_iff h hn hg).mpr h2
    have h0 := List.length_pos_iff.mpr (mem_nodup h hn).2
    refine ⟨⟨(g, M.mem g), List.mem_filter.mpr ⟨(rows_mem h).mpr ⟨hg, ?_, rfl⟩, ?_⟩, rfl⟩, decide_eq_true h1⟩
    · show 1 < (M.mem g).length
      omega
    · rw [decide_eq_true q1, decide_eq_true q2]
      rfl
theorem up_sorted {M : Mdl} (h : M.Lam) {asked : List Str} {n : Str} : (upOf M.ms asked n).Pairwise fun a b => (M.mem a).length ≤ (M.mem b).length := by
  unfold upOf around
  refine List.Pairwise.filter _ (List.pairwise_map.mpr (List.Pairwise.filter _ ?_))
  refine (rows_sorted M.ms).imp_of_mem fun {a b} ha hb q => ?_
  rw [← ((rows_mem h).mp ha).2.2, ← ((rows_mem h).mp hb).2.2]
  exact q
theorem up_head {M : Mdl} (h : M.Lam) {asked : List Str} {n g : Str} (e : (upOf M.ms asked n).head? = some g) : g ∈ upOf M.ms asked n ∧ ∀ o ∈ upOf M.ms asked n, (M.mem g).length ≤ (M.mem o).length := by
  have hs := up_sorted h (asked := asked) (n := n)
  cases hu : upOf M.ms asked n with
  | nil => rw [hu] at e; cases e
  | cons a r =>
    rw [hu] at e hs
    cases e
    refine ⟨List.mem_cons_self, fun o ho => ?_⟩
    rcases List.mem_cons.mp ho with rfl | ho
    · exact Nat.le_refl _
    · exact (List.pairwise_cons.mp hs).1 o ho
/-- the parts that the book's table gives are the greatest inner names -/
theorem parts_eq {M : Mdl} (h : M.Lam) {asked : List Str} (ha : ∀ m ∈ asked, m ∈ M.labels) {a : Str} (haa : a ∈ asked) : partsOf M.ms asked a = M.parts asked a := by
  unfold partsOf partsI Mdl.parts Mdl.inner
  rw [List.filter_filter]
  refine List.filter_congr fun n hn => ?_
  have hnl := ha n hn
  have hal := ha a haa
  rw [Bool.eq_iff_iff, decide_eq_true_iff, Bool.and_eq_true_iff, Bool.and_eq_true_iff, Bool.not_eq_true', Bool.not_eq_true', List.any_eq_false, decide_eq_false_iff_not, List.all_eq_true]
  constructor
  · intro e
    obtain ⟨h1, h2⟩ := up_head h e
    obtain ⟨q1, q2, q3⟩ := (up_mem h hnl ha).mp h1
    refine ⟨fun o ho q => ?_, q2, fun x hx => decide_eq_true (q3 x hx)⟩
    obtain ⟨o1, o2⟩ := List.mem_filter.mp ho
    obtain ⟨o2, o3⟩ := Bool.and_eq_true_iff.mp o2
    obtain ⟨q4, q5⟩ := Bool.and_eq_true_iff.mp q
    rw [Bool.not_eq_true', decide_eq_false_iff_not] at q4 o2
    have hou : o ∈ upOf M.ms asked n := (up_mem h hnl ha).mpr ⟨o1, q4, fun x hx => of_decide_eq_true (List.all_eq_true.mp q5 x hx)⟩
    have l1 := h2 o hou
    have l2 := mem_strict h (ha o o1) hal o2 (fun x hx => of_decide_eq_true (List.all_eq_true.mp o3 x hx))
    omega
  · rintro ⟨h1, h2, h3⟩
    have hau : a ∈ upOf M.ms asked n := (up_mem h hnl ha).mpr ⟨haa, h2, fun x hx => of_decide_eq_true (h3 x hx)⟩
    cases hu : (upOf M.ms asked n).head? with
    | none =>
      rw [List.head?_eq_none_iff] at hu
      rw [hu] at hau
      cases hau
    | some g =>
      obtain ⟨g1, g2⟩ := up_head h hu
      obtain ⟨q1, q2, q3⟩ := (up_mem h hnl ha).mp g1
      have l1 := g2 a hau
      by_cases e : g = a
      · rw [e]
      · exfalso
        have hc := head_mem h hnl
        have sub : ∀ x ∈ M.mem g, x ∈ M.mem a := by
          rcases nested h (ha g q1) hal (q3 _ hc) (of_decide_eq_true (h3 _ hc)) with q | q
          · exact q
          · have := mem_strict h hal (ha g q1) (Ne.symm e) q
            omega
        refine h1 g (List.mem_filter.mpr ⟨q1, ?_⟩) ?_
        · rw [Bool.and_eq_true_iff, Bool.not_eq_true', decide_eq_false_iff_not, List.all_eq_true]
          exact ⟨e, fun x hx => decide_eq_true (sub x hx)⟩
        · rw [Bool.and_eq_true_iff, Bool.not_eq_true', decide_eq_false_iff_not, List.all_eq_true]
          exact ⟨q2, fun x hx => decide_eq_true (q3 x hx)⟩
end Dl
end
section
set_option Elab.async false
set_option maxRecDepth 100000
set_option maxHeartbeats 4000000
set_option linter.all false
namespace Dl
open PySem L2
/-! ### filled by sizes is filled -/
theorem zip_filter_len (b : List Str) : ∀ (xs : List Str) (k : Nat), ((xs.zipIdx k).filter fun p => decide (p.1 ∈ b)).length = (xs.filter fun c => decide (c ∈ b)).length
  | [], _ => rfl
  | x :: xs, k => by
    rw [List.zipIdx_cons, List.filter_cons, List.filter_cons]
    by_cases h : x ∈ b
    · rw [if_pos (show decide ((x, k).1 ∈ b) = true from decide_eq_true h), if_pos (decide_eq_true h), List.length_cons, List.length_cons, zip_filter_len b xs (k + 1)]
    · rw [if_neg (show ¬ decide ((x, k).1 ∈ b) = true by simpa using h), if_neg (by simpa using h), zip_filter_len b xs (k + 1)]
theorem places_len {cs b : List Str} (nc : cs.Nodup) (nb : b.Nodup) (sub : ∀ x ∈ b, x ∈ cs) : (placesN cs b).length = b.length := by
  unfold placesN
  rw [List.length_map, zip_filter_len]
  refine Nat.le_antisymm (nodup_le (nc.filter _) fun x hx => of_decide_eq_true (List.mem_filter.mp hx).2) (nodup_le nb fun x hx => List.mem_filter.mpr ⟨sub x hx, decide_eq_true hx⟩)
theorem mem_sub {M : Mdl} (h : M.Lam) {l : Str} (hl : l ∈ M.labels) : ∀ x ∈ M.mem l, x ∈ M.sgl := by
  rcases label_cases hl with q | ⟨e, he, rfl⟩
  · rw [mem_single h q]
    intro x hx
    rw [List.mem_singleton.mp hx]
    exact q
  · rw [mem_set h he]
    exact h.inn e he
theorem size_eq {M : Mdl} (h : M.Lam) {l : Str} (hl : l ∈ M.labels) : sizeOf M.sgl M.ms l = (((M.mem l).length : Nat) : Int) := by
  unfold sizeOf
  rw [table_look h hl, places_len h.nd (mem_nodup h hl).1 (mem_sub h hl)]
theorem sum_flat {M : Mdl} : ∀ ps : List Str, ((ps.map fun p => (((M.mem p).length : Nat) : Int)).sum) = (((ps.flatMap M.mem).length : Nat) : Int)
  | [] => rfl
  | p :: ps => by
    rw [List.map_cons, List.sum_cons, sum_flat ps, List.flatMap_cons, List.length_append]
    omega
theorem flat_nodup {M : Mdl} (h : M.Lam) : ∀ {ps : List Str}, ps.Nodup → (∀ p ∈ ps, p ∈ M.labels) → (∀ p ∈ ps, ∀ q ∈ ps, p ≠ q → ∀ c ∈ M.mem p, c ∉ M.mem q) → (ps.flatMap M.mem).Nodup
  | [], _, _, _ => List.nodup_nil
  | p :: ps, nd, hl, dj => by
    have nd' := List.nodup_cons.mp nd
    rw [List.flatMap_cons]
    refine List.nodup_append.mpr ⟨(mem_nodup h (hl p List.mem_cons_self)).1, flat_nodup h nd'.2 (fun q hq => hl q (List.mem_cons_of_mem _ hq)) (fun q hq r hr => dj q (List.mem_cons_of_mem _ hq) r (List.mem_cons_of_mem _ hr)), fun a ha b hb e => ?_⟩
    subst e
    obtain ⟨q, hq, hc⟩ := List.mem_flatMap.mp hb
    exact dj p List.mem_cons_self q (List.mem_cons_of_mem _ hq) (fun e => nd'.1 (by rw [e]; exact hq)) a ha hc
theorem parts_spec {M : Mdl} {asked : List Str} {a p : Str} (hp : p ∈ M.parts asked a) : p ∈ asked ∧ p ≠ a ∧ (∀ x ∈ M.mem p, x ∈ M.mem a) ∧ ∀ o ∈ M.parts asked a, p ≠ o → ¬ ∀ x ∈ M.mem p, x ∈ M.mem o := by
  obtain ⟨h1, h2⟩ := List.mem_filter.mp hp
  obtain ⟨h3, h4⟩ := List.mem_filter.mp h1
  obtain ⟨h5, h6⟩ := Bool.and_eq_true_iff.mp h4
  rw [Bool.not_eq_true', decide_eq_false_iff_not] at h5
  refine ⟨h3, h5, fun x hx => of_decide_eq_true (List.all_eq_true.mp h6 x hx), fun o ho ne q => ?_⟩
  rw [Bool.not_eq_true', List.any_eq_false] at h2
  refine h2 o (List.mem_filter.mp ho).1 ?_
  rw [Bool.and_eq_true_iff, Bool.not_eq_true', decide_eq_false_iff_not, List.all_eq_true]
  exact ⟨ne, fun x hx => decide_eq_true (q x hx)⟩
theorem parts_apart {M : Mdl} (h : M.Lam) {asked : List Str} (ha : ∀ m ∈ asked, m ∈ M.labels) {a : Str} : ∀ p ∈ M.parts asked a, ∀ q ∈ M.parts asked a, p ≠ q → ∀ c ∈ M.mem p, c ∉ M.mem q := by
  intro p hp q hq ne c hc hd
  have sp := parts_spec hp
  have sq := parts_spec hq
  rcases nested h (ha p sp.1) (ha q sq.1) hc hd with t | t
  · exact sp.2.2.2 q hq ne t
  · exact sq.2.2.2 p hp (Ne.symm ne) t
/-- the book's filled names are those of the law -/
theorem fill_full {M : Mdl} (h : M.Lam) {asked : List Str} (nd : asked.Nodup) (ha : ∀ m ∈ asked, m ∈ M.labels) {a : Str} (haa : a ∈ asked) : fillK M.sgl M.ms asked a = M.full asked a := by
  have hal := ha a haa
  have hpl : ∀ p ∈ M.parts asked a, p ∈ M.labels := fun p hp => ha p (parts_spec hp).1
  have hpn : (M.parts asked a).Nodup := (nd.filter _).filter _
  have hfn := flat_nodup h hpn hpl (parts_apart h ha)
  have hfs : ∀ x ∈ (M.parts asked a).flatMap M.mem, x ∈ M.mem a := fun x hx => by
    obtain ⟨p, hp, hc⟩ := List.mem_flatMap.mp hx
    exact (parts_spec hp).2.2.1 x hc
  have hsum : ((M.parts asked a).map fun p => sizeOf M.sgl M.ms p) = (M.parts asked a).map fun p => (((M.mem p).length : Nat) : Int) := List.map_congr_left fun p hp => size_eq h (hpl p hp)
  unfold fillK filledB
  rw [parts_eq h ha haa, full_parts h ha hal, hsum, sum_flat, size_eq h hal]
  obtain ⟨x0, hx0⟩ := List.exists_mem_of_ne_nil _ (mem_nodup h hal).2
  rw [Bool.eq_iff_iff, Bool.and_eq_true_iff, decide_eq_true_iff, List.all_eq_true]
  constructor
  · rintro ⟨_, e⟩ c hc
    by_cases hcm : c ∈ (M.parts asked a).flatMap M.mem
    · obtain ⟨p, hp, q⟩ := List.mem_flatMap.mp hcm
      exact List.any_eq_true.mpr ⟨p, hp, decide_eq_true q⟩
    · exfalso
      have := nodup_le (xs := c :: (M.parts asked a).flatMap M.mem) (List.nodup_cons.mpr ⟨hcm, hfn⟩) (ys := M.mem a) fun x hx => by
        rcases List.mem_cons.mp hx with rfl | hx
        · exact hc
        · exact hfs x hx
      rw [List.length_cons] at this
      omega
  · intro q
    have cov : ∀ c ∈ M.mem a, c ∈ (M.parts asked a).flatMap M.mem := fun c hc => by
      obtain ⟨p, hp, e⟩ := List.any_eq_true.mp (q c hc)
      exact List.mem_flatMap.mpr ⟨p, hp, of_decide_eq_true e⟩
    refine ⟨?_, ?_⟩
    · have := cov x0 hx0
      cases hz : M.parts asked a with
      | nil => rw [hz] at this; cases this
      | cons y ys => rfl
    · have l1 := nodup_le hfn hfs
      have l2 := nodup_le (mem_nodup h hal).1 cov
      omega
theorem asked_self {M : Mdl} (h : M.Lam) (xs : List Str) : askedOf M.ms xs = M.sorted xs := by
  unfold askedOf Mdl.sorted
  rw [table_keys]
theorem fillT_names {M : Mdl} (h : M.Lam) {xs : List Str} : (fillT M.sgl M.ms (askedOf M.ms xs)).map (·.1) = (M.sorted xs).filter fun l => M.full (M.sorted xs) l := by
  rw [fillT_fst, asked_self h]
  refine List.filter_congr fun a ha => ?_
  have hs : ∀ m ∈ M.sorted xs, m ∈ M.labels := fun m hm => (List.mem_filter.mp hm).1
  exact fill_full h ((labels_nodup h).filter _) hs ha
end Dl
end
section
set_option Elab.async false
set_option maxRecDepth 100000
set_option maxHeartbeats 4000000
set_option linter.all false
namespace Dl
open PySem L2
/-! ### which letters the book lets -/
theorem filter_of_sublist {xs ys : List Str} (s : List.Sublist xs ys) (nd : ys.Nodup) : (ys.filter fun y => decide (y ∈ xs)) = xs := by
  induction s with
  | slnil => rfl
  | @cons xs ys a s ih =>
    have nd' := List.nodup_cons.mp nd
    rw [List.filter_cons_of_neg, ih nd'.2]
    simpa using fun q => nd'.1 (s.subset q)
  | @cons_cons xs ys a s ih =>
    have nd' := List.nodup_cons.mp nd
    rw [List.filter_cons_of_pos (by simp)]
    congr 1
    have : (ys.filter fun y => decide (y ∈ a :: xs)) = ys.filter fun y => decide (y ∈ xs) := List.filter_congr fun y hy => by
      have : y ≠ a := fun e => nd'.1 (by rw [← e]; exact hy)
      exact decide_eq_decide.mpr ⟨fun q => (List.mem_cons.mp q).resolve_left this, fun q => List.mem_cons_of_mem _ q⟩
    rw [this]
    exact ih nd'.2
/-- some labels in their order -/
structure Mdl.Some (M : Mdl) (some : List Str) : Prop where
  sub : List.Sublist some M.labels
theorem Mdl.Some.sorted {M : Mdl} (h : M.Lam) {some : List Str} (hs : M.Some some) : M.sorted some = some := filter_of_sublist hs.sub (labels_nodup h)
theorem Mdl.Some.nodup {M : Mdl} (h : M.Lam) {some : List Str} (hs : M.Some some) : some.Nodup := hs.sub.nodup (labels_nodup h)
theorem Mdl.Some.in_ {M : Mdl} {some : List Str} (hs : M.Some some) : ∀ m ∈ some, m ∈ M.labels := fun m hm => hs.sub.subset hm
theorem fill_mem {M : Mdl} (h : M.Lam) {asked : List Str} (nd : asked.Nodup) (ha : ∀ m ∈ asked, m ∈ M.labels) {e : Str × List Str} (he : e ∈ fillT M.sgl M.ms asked) : e.1 ∈ asked ∧ M.full asked e.1 = true ∧ e.2 = M.parts asked e.1 ∧ e.2 ≠ [] := by
  obtain ⟨a, haf, rfl⟩ := List.mem_map.mp he
  obtain ⟨h1, h2⟩ := List.mem_filter.mp haf
  refine ⟨h1, by rw [← fill_full h nd ha h1]; exact h2, parts_eq h ha h1, fun q => ?_⟩
  have q : partsOf M.ms asked a = [] := q
  unfold fillK at h2
  rw [q] at h2
  cases h2
theorem full_mem {M : Mdl} (h : M.Lam) {asked : List Str} (nd : asked.Nodup) (ha : ∀ m ∈ asked, m ∈ M.labels) {a : Str} (h1 : a ∈ asked) (h2 : M.full asked a = true) : (a, M.parts asked a) ∈ fillT M.sgl M.ms asked := by
  refine List.mem_map.mpr ⟨a, List.mem_filter.mpr ⟨h1, by rw [fill_full h nd ha h1]; exact h2⟩, ?_⟩
  rw [parts_eq h ha h1]
theorem agree_iff {v : List Str} {e : Str × List Str} : agreeE v e = true ↔ ¬ (e.1 ∈ v ∧ (e.2.filter fun p => decide (p ∈ v)).length = 0) ∧ ¬ (e.1 ∉ v ∧ (e.2.filter fun p => decide (p ∈ v)).length = e.2.length) := by
  unfold agreeE
  rw [Bool.and_eq_true_iff, Bool.not_eq_true', Bool.not_eq_true', Bool.and_eq_false_iff, Bool.and_eq_false_iff]
  simp only [decide_eq_false_iff_not, Bool.not_eq_false', decide_eq_true_iff]
  constructor
  · rintro ⟨h1, h2⟩
    refine ⟨fun q => ?_, fun q => ?_⟩
    · rcases h1 with h1 | h1
      · exact h1 q.1
      · exact h1 q.2
    · rcases h2 with h2 | h2
      · exact q.1 h2
      · exact h2 q.2
  · rintro ⟨h1, h2⟩
    refine ⟨?_, ?_⟩
    · by_cases c : e.1 ∈ v
      · exact .inr fun q => h1 ⟨c, q⟩
      · exact .inl c
    · by_cases c : e.1 ∈ v
      · exact .inl c
      · exact .inr fun q => h2 ⟨c, q⟩
theorem poss_empty {M : Mdl} (h : M.Lam) {asked : List Str} (nd : asked.Nodup) (ha : ∀ m ∈ asked, m ∈ M.labels) : (fillT M.sgl M.ms asked).all (agreeE []) = true := by
  rw [List.all_eq_true]
  intro e he
  obtain ⟨_, _, _, ne⟩ := fill_mem h nd ha he
  rw [agree_iff]
  refine ⟨fun q => (by cases q.1), fun q => ?_⟩
  have : (e.2.filter fun p => decide (p ∈ ([] : List Str))) = [] := List.filter_eq_nil_iff.mpr fun a _ => by simp
  rw [this] at q
  exact ne (List.length_eq_zero_iff.mp q.2.symm)
theorem poss_all {M : Mdl} (h : M.Lam) {asked : List Str} (nd : asked.Nodup) (ha : ∀ m ∈ asked, m ∈ M.labels) : (fillT M.sgl M.ms asked).all (agreeE asked) = true := by
  rw [List.all_eq_true]
  intro e he
  obtain ⟨h1, _, h3, ne⟩ := fill_mem h nd ha he
  rw [agree_iff]
  refine ⟨fun q => ?_, fun q => q.1 h1⟩
  have : (e.2.filter fun p => decide (p ∈ asked)) = e.2 := List.filter_eq_self.mpr fun p hp => by
    rw [h3] at hp
    exact decide_eq_true (parts_spec hp).1
  rw [this] at q
  exact ne (List.length_eq_zero_iff.mp q.2)
/-- all others lie within the label -/
structure Mdl.Below (M : Mdl) (some : List Str) (l : Str) : Prop where
  me : l ∈ some
  lo : ∀ m ∈ some, m = l ∨ m ∈ M.inner M.labels l
theorem inner_spec {M : Mdl} {asked : List Str} {l m : Str} : m ∈ M.inner asked l ↔ m ∈ asked ∧ m ≠ l ∧ ∀ x ∈ M.mem m, x ∈ M.mem l := by
  unfold Mdl.inner
  rw [List.mem_filter, Bool.and_eq_true_iff, Bool.not_eq_true', decide_eq_false_iff_not, List.all_eq_true]
  exact ⟨fun ⟨a, b, c⟩ => ⟨a, b, fun x hx => of_decide_eq_true (c x hx)⟩, fun ⟨a, b, c⟩ => ⟨a, b, fun x hx => decide_eq_true (c x hx)⟩⟩
theorem top_no_part {M : Mdl} (h : M.Lam) {some : List Str} {l : Str} (hs : M.Some some) (hb : M.Below some l) {a : Str} (ha : a ∈ some) (ne : a ≠ l) : l ∉ M.parts some a := fun q => by
  have sp := parts_spec q
  rcases hb.lo a ha with e | e
  · exact ne e
  · have si := inner_spec.mp e
    have l1 := mem_strict h (hs.in_ l hb.me) (hs.in_ a ha) sp.2.1 sp.2.2.1
    have l2 := mem_strict h (hs.in_ a ha) (hs.in_ l hb.me) si.2.1 si.2.2
    omega
theorem barred_one {M : Mdl} (h : M.Lam) {some : List Str} {l : Str} (hs : M.Some some) (hb : M.Below some l) : (fillT M.sgl M.ms some).all (agreeE [l]) = !M.full some l := by
  have nd := hs.nodup h
  cases hf : M.full some l with
  | true =>
    show _ = false
    rw [List.all_eq_false]
    refine ⟨_, full_mem h nd hs.in_ hb.me hf, fun q => ?_⟩
    rw [agree_iff] at q
    refine q.1 ⟨by simp, ?_⟩
    rw [List.length_eq_zero_iff, List.filter_eq_nil_iff]
    intro p hp e
    have e : p = l := by simpa using e
    subst e
    exact (parts_spec hp).2.1 rfl
  | false =>
    show _ = true
    rw [List.all_eq_true]
    intro e he
    obtain ⟨h1, h2, h3, ne⟩ := fill_mem h nd hs.in_ he
    have nl : e.1 ≠ l := fun q => by rw [q, hf] at h2; cases h2
    rw [agree_iff]
    refine ⟨fun q => nl (by simpa using q.1), fun q => ?_⟩
    have : (e.2.filter fun p => decide (p ∈ [l])) = [] := List.filter_eq_nil_iff.mpr fun p hp q => by
      have q : p = l := by simpa using q
      subst q
      rw [h3] at hp
      exact top_no_part h hs hb h1 nl hp
    rw [this] at q
    exact ne (List.length_eq_zero_iff.mp q.2.symm)
theorem below_v {M : Mdl} {some : List Str} {l m : Str} (hb : M.Below some l) : m ∈ (some.filter fun m => decide (m ∈ M.inner some l)) ↔ m ∈ some ∧ m ≠ l := by
  rw [List.mem_filter, decide_eq_true_iff]
  refine ⟨fun ⟨a, b⟩ => ⟨a, (inner_spec.mp b).2.1⟩, fun ⟨a, b⟩ => ⟨a, inner_spec.mpr ⟨a, b, ?_⟩⟩⟩
  exact (inner_spec.mp ((hb.lo m a).resolve_left b)).2.2
theorem barred_rest {M : Mdl} (h : M.Lam) {some : List Str} {l : Str} (hs : M.Some some) (hb : M.Below some l) : (fillT M.sgl M.ms some).all (agreeE (some.filter fun m => decide (m ∈ M.inner some l))) = !M.full some l := by
  have nd := hs.nodup h
  generalize hv : (some.filter fun m => decide (m ∈ M.inner some l)) = v
  have iv : ∀ m, m ∈ v ↔ m ∈ some ∧ m ≠ l := fun m => by rw [← hv]; exact below_v hb
  cases hf : M.full some l with
  | true =>
    show _ = false
    rw [List.all_eq_false]
    refine ⟨_, full_mem h nd hs.in_ hb.me hf, fun q => ?_⟩
    rw [agree_iff] at q
    refine q.2 ⟨fun q => ((iv l).mp q).2 rfl, ?_⟩
    rw [List.filter_eq_self.mpr]
    intro p hp
    exact decide_eq_true ((iv p).mpr ⟨(parts_spec hp).1, (parts_spec hp).2.1⟩)
  | false =>
    show _ = true
    rw [List.all_eq_true]
    intro e he
    obtain ⟨h1, h2, h3, ne⟩ := fill_mem h nd hs.in_ he
    have nl : e.1 ≠ l := fun q => by rw [q, hf] at h2; cases h2
    rw [agree_iff]
    refine ⟨fun q => ?_, fun q => q.1 ((iv e.1).mpr ⟨h1, nl⟩)⟩
    have : (e.2.filter fun p => decide (p ∈ v)) = e.2 := List.filter_eq_self.mpr fun p hp => by
      rw [h3] at hp
      exact decide_eq_true ((iv p).mpr ⟨(parts_spec hp).1, fun q => by subst q; exact top_no_part h hs hb h1 nl hp⟩)
    rw [this] at q
    exact ne (List.length_eq_zero_iff.mp q.2)
theorem full_congr {M : Mdl} {as bs : List Str} (e : ∀ x, x ∈ as ↔ x ∈ bs) (l : Str) : M.full as l = M.full bs l := by
  have hi : ∀ m, m ∈ M.inner as l ↔ m ∈ M.inner bs l := fun m => by rw [inner_spec, inner_spec, e]
  have hc : ∀ c, c ∈ M.covered as l ↔ c ∈ M.covered bs l := fun c => by
    unfold Mdl.covered
    rw [List.mem_flatMap, List.mem_flatMap]
    exact ⟨fun ⟨m, a, b⟩ => ⟨m, (hi m).mp a, b⟩, fun ⟨m, a, b⟩ => ⟨m, (hi m).mpr a, b⟩⟩
  have hn : (M.covered as l = []) ↔ (M.covered bs l = []) := by
    rw [List.eq_nil_iff_forall_not_mem, List.eq_nil_iff_forall_not_mem]
    exact ⟨fun q c hc' => q c ((hc c).mpr hc'), fun q c hc' => q c ((hc c).mp hc')⟩
  unfold Mdl.full
  rw [Bool.eq_iff_iff, Bool.and_eq_true_iff, Bool.and_eq_true_iff, Bool.not_eq_true', Bool.not_eq_true', decide_eq_false_iff_not, decide_eq_false_iff_not, List.all_eq_true, List.all_eq_true, hn]
  exact ⟨fun ⟨a, b⟩ => ⟨a, fun x hx => decide_eq_true ((hc x).mp (of_decide_eq_true (b x hx)))⟩, fun ⟨a, b⟩ => ⟨a, fun x hx => decide_eq_true ((hc x).mpr (of_decide_eq_true (b x hx)))⟩⟩
theorem sorted_mem {M : Mdl} {xs : List Str} (hx : ∀ x ∈ xs, x ∈ M.labels) (x : Str) : x ∈ M.sorted xs ↔ x ∈ xs := by
  unfold Mdl.sorted
  rw [List.mem_filter, decide_eq_true_iff]
  exact ⟨fun q => q.2, fun q => ⟨hx x q, q⟩⟩
/-- filled names asked in any sequence -/
theorem names_due {M : Mdl} (h : M.Lam) {xs : List Str} (hx : ∀ x ∈ xs, x ∈ M.labels) : (fillT M.sgl M.ms (askedOf M.ms xs)).map (·.1) = (M.sorted xs).filter fun l => M.full xs l := by
  rw [fillT_names h]
  exact List.filter_congr fun l _ => full_congr (sorted_mem hx) l
end Dl
end
section
set_option Elab.async false
set_option maxRecDepth 100000
set_option maxHeartbeats 4000000
set_option linter.all false
namespace Dl
open PySem L2 ClX
/-! ### the law: barred letters -/
def bkD (C : Addr) (M : Mdl) : D := .ins C (bkF M.sgl M.ms)
inductive R_barred (C : Addr) : List D → D → Prop
  | mk (M : Mdl) (h : M.Lam) (some : List Str) (l : Str) (hs : M.Some some) (hb : M.Below some l) : R_barred C [bkD C M, mdlD M, encL some, .str l, .bl (M.full some l)] (.bl true)
theorem ms_len {M : Mdl} (h : M.Lam) : M.ms.length ≤ 1000 := by
  have h1 := h.small.sgl
  have h2 := h.small.sets
  rw [table_len]
  omega
theorem ms_fst (M : Mdl) : M.ms.map (·.1) = M.labels := table_keys M
theorem calg0 {P : Program} {w : World} {K : PySem.W.Frag} {mg : Str → Option Value} {base : Heap} {x : Str} {st : Stmt} {f : Addr} {fd : FuncData} {N ps : List Str} {k : Nat} {sp : Sp} (F : C8.Def K mg x st f fd) (b : Binds K fd ps []) (S : FnScope N ps (C8.fnScope st)) (len : ∀ vs H Q, sp vs H Q C8.E0 → vs.length = ps.length)
    (body : ∀ (cdv : Value) (A : Around) (outer : List Env) (s : Shared) (H : Hp) (vs : List V) (Q : VK), A.guards = some [] → Room k (A.deeper (PyProof.Rows.envOfC x (C8.fnScope st) s.heap.objs.size f cdv)) → sp vs H Q C8.E0 →
      ∃ t, PSs (cxOf C8.CX0 P w K mg base N x (C8.fnScope st) f cdv A outer s H C8.E0).nox (C8.fnBody st) t ∧ t { nx := fun _ H' => Q .non H', rt := Q } (L2.start N vs) H) : CalG P w K mg base (k + 1) x sp := ⟨f, fd, ps, fng_of F.fn S len body, F.mgf, F.kp, b⟩
section
variable {P : Program} {w : World} {K : PySem.W.Frag} {mg : Str → Option Value} {base : Heap}
abbrev s_barred : Stmt := top 51
abbrev N_barred : List Str := ["_law_shelf", "_law_model", "_law_some", "_law_label", "_law_is_full_here", "_law_inner_here", "_law_told", "_law_less"]
theorem sc_barred : FnScope N_barred ["_law_shelf", "_law_model", "_law_some", "_law_label", "_law_is_full_here"] (C8.fnScope s_barred) := C8.fnScope_by (by decide +kernel)
theorem ok_barred {C f : Addr} {fd : FuncData} (Fd : C8.Def K mg "_law_barred_right" s_barred f fd) (b : Binds K fd ["_law_shelf", "_law_model", "_law_some", "_law_label", "_law_is_full_here"] []) (T : Bi mg) (c_inner : C8.Cal P w K mg base 2 "_law_inner" (spF R_inner) []) (c_poss : C8.Cal P w K mg base 4 "is_possible" (spF (R_poss C)) []) : CalG P w K mg base 5 "_law_barred_right" (spF (R_barred C)) := by
  refine calg0 Fd b sc_barred (fun vs H Q h => len_F (fun ds d h => by cases h; rfl) vs H Q _ h) fun cdv A outer s H vs Q hgd hr h => ?_
  refine ⟨_, (pss_cons (ps_set (i := 5) sc_barred.nd rfl (by first | exact Or.inl rfl | exact Or.inr rfl) (C8.pe_c c_inner hr (by decide) rfl (pa_cons (pv 1) (pa_cons (pv 2) (pa_cons (pv 3) pa_nil)))))
    (pss_cons (ps_set (i := 6) sc_barred.nd rfl (by first | exact Or.inl rfl | exact Or.inr rfl) (pe_lst (pa_cons (C8.pe_c c_poss hr (by decide) rfl (pa_cons (pv 0) (pa_cons (pv 2) (pa_cons (pe_tup (pa_cons (pv 3) pa_nil)) pa_nil)))) pa_nil)))
    (pss_cons (ps_expr (pe_bm PySem.F.plainAttrs_list PySem.F.slot_list_append PySem.F.type_list_append mt_append (pv 6) (pa_cons (C8.pe_c c_poss hr (by decide) rfl (pa_cons (pv 0) (pa_cons (pv 2) (pa_cons (pe_callTy (k_tuple rfl) (by rfl) T.b_tuple (by decide +kernel) (pa_cons (pe_lc (own := [("_law_less", 7)]) (g := gName 7) rfl sc_barred.nd (pi_list (pv 2)) (blkOk_by (N := N_barred) (sc := C8.fnScope s_barred) (by decide +kernel)) (fun _ _ _ _ _ => (pg_name (i := 7) sc_barred.nd rfl (by first | exact Or.inl rfl | exact Or.inr rfl))) (fun _ _ _ _ _ => (pts_one (pt_cmpR (k_in rfl) (pv 7) (pv 5) (by rfl)))) (fun _ _ _ _ _ => (pv 7))) pa_nil)) pa_nil)))) pa_nil)))
    (pss_one (ps_ret (pe_cmpR op_eq (pe_callB (k_repr rfl hgd (lt_u64 (k := 4) hr.un)) (by rfl) T.b_repr (by decide +kernel) (pa_cons (pv 6) pa_nil)) (pe_callB (k_repr rfl hgd (lt_u64 (k := 4) hr.un)) (by rfl) T.b_repr (by decide +kernel) (pa_cons (pe_lst (pa_cons (pe_not (pv 4)) (pa_cons (pe_not (pv 4)) pa_nil))) pa_nil)) (nomark _))))))), run_F h ?_⟩
  rintro _ _ ⟨M, hM, some, l, hs, hb⟩ F -
  have h9 := hM.small.labels
  have hsl : some.length ≤ 9 := Nat.le_trans hs.sub.length_le h9
  have hnd := hs.nodup hM
  have hin : ∀ x ∈ some, x ∈ M.ms.map (·.1) := fun x hx => by rw [ms_fst]; exact hs.in_ x hx
  have hmn : (M.ms.map (·.1)).Nodup := by rw [ms_fst]; exact labels_nodup hM
  have hself : askedOf M.ms some = some := (asked_self hM some).trans (hs.sorted hM)
  have hs1000 : (1000 : Nat) < sizeLine := by decide
  refine ⟨_, .rt [.dead], ?_⟩
  refine ws_seq (ws_set 5 (ev_callF (ds := [mdlD M, encL some, .str l]) (R_inner.mk M hM.small some l (by omega)) (eva_cons (ev_var 1 rfl (by simp)) (eva_cons (ev_var 2 rfl (by simp)) (eva_cons (ev_var 3 rfl (by simp)) eva_nil))))) ?_
  refine ws_seq (ρ1 := [.dat (bkD C M), .dat (mdlD M), .dat (encL some), .dat (.str l), .dat (.bl (M.full some l)), .dat (encL (M.inner some l)), .cell 0, .un]) (μ1 := [.lst [.bl (!M.full some l)]]) (ws_set 6 (ev_lstO (μ1 := []) (ds := [.bl (!M.full some l)]) (eva_cons (ev_eqd (ev_callF (ds := [bkD C M, encL some, encT [l]]) (R_poss.mk M.sgl M.ms some [l] (encL some) (.inl rfl) hnd hin (ms_len hM) hmn ?a1) (eva_cons (ev_var 0 rfl (by simp)) (eva_cons (ev_var 2 rfl (by simp)) (eva_cons (ev_tup (ds := [.str l]) (eva_cons (ev_var 3 rfl (by simp)) eva_nil) ?a2) eva_nil)))) ?a3) eva_nil) ?a4 0 rfl)) ?_
  case a1 =>
    rw [hself]
    exact (filter_of_sublist (List.singleton_sublist.mpr hb.me) hnd).symm
  case a2 => exact Nat.le_trans (show (1 : Nat) ≤ 1000 by decide) (Nat.le_of_lt hs1000)
  case a3 => rw [hself, barred_one hM hs hb]
  case a4 => exact Nat.le_trans (show (1 : Nat) ≤ 1000 by decide) (Nat.le_of_lt hs1000)
  let v : List Str := some.filter fun m => decide (m ∈ M.inner some l)
  refine ws_seq (ρ1 := [.dat (bkD C M), .dat (mdlD M), .dat (encL some), .dat (.str l), .dat (.bl (M.full some l)), .dat (encL (M.inner some l)), .cell 0, .un]) (μ1 := [.lst [.bl (!M.full some l), .bl (!M.full some l)]]) (ws_drop (ev_eqm (ev_mut (ds := [.bl (!M.full some l)]) (es := [.bl (!M.full some l)]) (μ2 := [.lst [.bl (!M.full some l)]]) (md_append ?b1) (ev_var 6 rfl (by simp)) (eva_cons (ev_eqd (ev_callF (ds := [bkD C M, encL some, encT v]) (R_poss.mk M.sgl M.ms some v (encL some) (.inl rfl) hnd hin (ms_len hM) hmn ?b2) (eva_cons (ev_var 0 rfl (by simp)) (eva_cons (ev_var 2 rfl (by simp)) (eva_cons (ev_cb (ds := [encL v]) (cd_tuple (.inl rfl)) (eva_cons (ev_lcF (α := Str) (enc := .str) (xs := some) (p := fun m => decide (m ∈ M.inner some l)) (f := .str) (evi_list (ev_var 2 rfl (by simp))) ?b3 (by omega) (fun F' a => evg_name 7) (fun F' a _ => evt_test (ev_op opd_inS (ev_var 7 rfl (by simp)) (ev_var 5 rfl (by simp)))) (fun F' a _ _ => ev_var 7 rfl (by simp))) eva_nil)) eva_nil)))) ?b4) eva_nil) ⟨_, rfl⟩ rfl) rfl)) ?_
  case b1 => exact Nat.lt_of_le_of_lt (show (1 : Nat) ≤ 1000 by decide) hs1000
  case b2 =>
    rw [hself]
    show v = some.filter fun n => decide (n ∈ v)
    exact (filter_of_sublist List.filter_sublist hnd).symm
  case b3 =>
    intro i hi
    cases List.mem_singleton.mp hi
    rfl
  case b4 => rw [hself, barred_rest hM hs hb]
  refine ws_free (i := 6) (k := 0) rfl rfl ?_
  generalize M.full some l = b
  refine ws_ret (ev_eqd (ev_op (opd_eqS (a := (PyData.list [.bool (!b), .bool (!b)]).shown) (b := (PyData.list [.bool (!b), .bool (!b)]).shown)) (ev_repr (d := .lst [.bl (!b), .bl (!b)]) ⟨_, .inl rfl⟩ ?c1 ?c2 ?c3 ?c4 ?c5 (ev_var 6 rfl (by simp))) (ev_repr (d := .lst [.bl (!b), .bl (!b)]) ⟨_, .inl rfl⟩ ?c1 ?c2 ?c3 ?c4 ?c5 (ev_lst (ds := [.bl (!b), .bl (!b)]) (eva_cons (ev_not (ev_var 4 rfl (by simp))) (eva_cons (ev_not (ev_var 4 rfl (by simp))) eva_nil)) ?c6))) (by simp))
  case c1 => simp [pyD, pyDs]
  case c2 => cases b <;> decide +kernel
  case c3 => cases b <;> decide +kernel
  case c4 => cases b <;> decide +kernel
  case c5 => cases b <;> decide +kernel
  case c6 => exact Nat.le_trans (show (2 : Nat) ≤ 1000 by decide) (Nat.le_of_lt hs1000)
end
end Dl
end
section
set_option Elab.async false
set_option maxRecDepth 100000
set_option maxHeartbeats 4000000
set_option linter.all false
namespace Dl
open PySem L2 ClX
/-! ### the law: filled names told and due -/
def pyL (xs : List Str) : PyData := .list (xs.map .str)
theorem pyL_of (xs : List Str) : pyD (encL xs) = some (pyL xs) := pyD_strs xs
theorem shownAll_map (xs : List Str) : PyData.shownAll (xs.map .str) = xs.map reprText := by
  induction xs with
  | nil => simp [PyData.shownAll]
  | cons x xs ih => simp [PyData.shownAll, PyData.shown, ih]
theorem showAll_map (xs : List Str) : PyData.showableAll (xs.map .str) = true := by
  induction xs with
  | nil => simp [PyData.showableAll]
  | cons x xs ih => simp [PyData.showableAll, PyData.showable, ih]
theorem noDict_map (xs : List Str) : PyData.hasDictAll (xs.map .str) = false := by
  induction xs with
  | nil => simp [PyData.hasDictAll]
  | cons x xs ih => simp [PyData.hasDictAll, PyData.hasDict, ih]
theorem ad_small : ∀ c ∈ (alpha ++ digs).cps.toList, c < 16 ^ 8 := by decide +kernel
theorem repr_len {x : Str} (h : nameOk x = true) : (reprText x).length ≤ 82 := by
  have h8 := (nameOk_len h).2
  have := StrLaws.reprText_len x fun c hc => by
    unfold nameOk at h
    have h2 := (Bool.and_eq_true_iff.mp (Bool.and_eq_true_iff.mp h).2).2
    exact ad_small c (of_decide_eq_true (List.all_eq_true.mp h2 c hc))
  omega
theorem sum_le {k : Nat} : ∀ {xs : List Nat}, (∀ x ∈ xs, x ≤ k) → xs.sum ≤ xs.length * k
  | [], _ => Nat.zero_le _
  | x :: xs, h => by
    have := sum_le (xs := xs) fun y hy => h y (List.mem_cons_of_mem _ hy)
    have hx := h x List.mem_cons_self
    rw [List.sum_cons, List.length_cons, Nat.succ_mul]
    omega
structure Nm (xs : List Str) : Prop where
  len : xs.length ≤ 9
  ok : ∀ x ∈ xs, nameOk x = true
theorem Nm.shown {xs : List Str} (h : Nm xs) : (pyL xs).shown.length ≤ 1000 := by
  show (PyData.list (xs.map .str)).shown.length ≤ _
  rw [PyData.shown, shownAll_map]
  have h1 := listText_len_le (xs.map reprText)
  have h2 := sum_le (k := 82) (xs := (xs.map reprText).map (·.length)) fun n hn => by
    obtain ⟨t, ht, rfl⟩ := List.mem_map.mp hn
    obtain ⟨x, hx, rfl⟩ := List.mem_map.mp ht
    exact repr_len (h.ok x hx)
  rw [List.length_map, List.length_map] at h2
  rw [List.length_map] at h1
  have := h.len
  omega
theorem pyL_show (xs : List Str) : (pyL xs).showable = true := by
  show (PyData.list (xs.map .str)).showable = _
  rw [PyData.showable, showAll_map]
theorem pyL_dict (xs : List Str) : (pyL xs).hasDict = false := by
  show (PyData.list (xs.map .str)).hasDict = _
  rw [PyData.hasDict, noDict_map]
theorem pyL_depth (xs : List Str) : (pyL xs).depth ≤ 1 := depth_strs xs
/-- a list of lists of names -/
def pyLL (xss : List (List Str)) : PyData := .list (xss.map pyL)
theorem pyDs_ll : ∀ xss : List (List Str), pyDs (xss.map encL) = some (xss.map pyL)
  | [] => by simp [pyDs]
  | xs :: xss => by
    rw [List.map_cons, List.map_cons]
    simp only [pyDs, pyL_of, pyDs_ll xss]
theorem pyLL_of (xss : List (List Str)) : pyD (.lst (xss.map encL)) = some (pyLL xss) := by
  simp only [pyD, pyDs_ll]
  rfl
theorem pyLL_show (xss : List (List Str)) : (pyLL xss).showable = true := by
  show (PyData.list (xss.map pyL)).showable = _
  rw [PyData.showable]
  induction xss with
  | nil => simp [PyData.showableAll]
  | cons x xs ih => simp [PyData.showableAll, pyL_show, ih]
theorem pyLL_dict (xss : List (List Str)) : (pyLL xss).hasDict = false := by
  show (PyData.list (xss.map pyL)).hasDict = _
  rw [PyData.hasDict]
  induction xss with
  | nil => simp [PyData.hasDictAll]
  | cons x xs ih => simp [PyData.hasDictAll, pyL_dict, ih]
theorem pyLL_depth (xss : List (List Str)) : (pyLL xss).depth ≤ 2 := by
  have := depthAll_map pyL (n := 1) pyL_depth xss
  show (PyData.list (xss.map pyL)).depth ≤ 2
  rw [PyData.depth]
  omega
theorem pyLL_shown {xss : List (List Str)} (hl : xss.length ≤ 9) (h : ∀ xs ∈ xss, Nm xs) : (pyLL xss).shown.length ≤ 10000 := by
  show (PyData.list (xss.map pyL)).shown.length ≤ _
  have e : PyData.shownAll (xss.map pyL) = xss.map fun xs => (pyL xs).shown := by
    clear hl h
    induction xss with
    | nil => simp [PyData.shownAll]
    | cons x xs ih => simp [PyData.shownAll, ih]
  rw [PyData.shown, e]
  have h1 := listText_len_le (xss.map fun xs => (pyL xs).shown)
  have h2 := sum_le (k := 1000) (xs := (xss.map fun xs => (pyL xs).shown).map (·.length)) fun n hn => by
    obtain ⟨t, ht, rfl⟩ := List.mem_map.mp hn
    obtain ⟨x, hx, rfl⟩ := List.mem_map.mp ht
    exact (h x hx).shown
  rw [List.length_map, List.length_map] at h2
  rw [List.length_map] at h1
  omega
theorem label_name {M : Mdl} (h : M.Lam) {l : Str} (hl : l ∈ M.labels) : nameOk l = true := by
  rcases label_cases hl with q | ⟨e, he, rfl⟩
  · exact h.nms l q
  · exact (h.lbl e he).1
theorem nm_of {M : Mdl} (h : M.Lam) {xs : List Str} (s : List.Sublist xs M.labels) : Nm xs := ⟨Nat.le_trans s.length_le h.small.labels, fun x hx => label_name h (s.subset hx)⟩
theorem mixed_facts (p : Pot) {ls : List Str} (most : Nat) (nd : ls.Nodup) : (mixed p ls most).found.Nodup ∧ ∀ x ∈ (mixed p ls most).found, x ∈ ls := by
  have := (Mx.perm ⟨p.next (most + 1), ls, []⟩ (min (p.draw (most + 1)) ls.length) (Nat.min_le_right _ _)).1
  rw [List.nil_append] at this
  have h2 : ((mixed p ls most).found ++ (mixed p ls most).spare).Perm ls := this
  exact ⟨(List.nodup_append.mp ((h2.nodup_iff).mpr nd)).1, fun x hx => h2.mem_iff.mp (List.mem_append_left _ hx)⟩
theorem Dats.rev {H : Hp} : ∀ {vs : List V} {ds : List D}, Dats H vs ds → Dats H vs.reverse ds.reverse
  | _, _, .nil => .nil
  | _, _, .cons x r => by
    rw [List.reverse_cons, List.reverse_cons]
    exact Dats.snoc x (Dats.rev r)
theorem ev_revL {F : Fm} {ρ : List Slot} {μ μ1 : List Cell} {te : TE} {K : PySem.W.Frag} {ds : List D} (h : Ev F te ρ μ (.dat (.lst ds)) μ1) : Ev F (tRevL K te) ρ μ (.dat (.lst ds.reverse)) μ1 := fun as σ H R Q k =>
  h as σ H R _ fun v as1 H1 R1 p1 a1 x1 => by
    obtain ⟨p, vs, rfl, e, q⟩ := dat_lst (dat_slot x1)
    refine ⟨p, vs, rfl, SqL.of (hide_get e), fun l nl => ?_⟩
    exact k _ as1 _ (R1.same (same_upd nl)) p1 (a1.trans (.same (same_upd nl))) ⟨_, rfl, .lst (hide_new R1.live nl) (Dats.upd nl q.rev)⟩
end Dl
end
section
set_option Elab.async false
set_option maxRecDepth 100000
set_option maxHeartbeats 4000000
set_option linter.all false
namespace Dl
open PySem L2 ClX
def Mdl.due (M : Mdl) (xs : List Str) : List Str := (M.sorted xs).filter fun l => M.full xs l
theorem due_congr {M : Mdl} {xs ys : List Str} (e : ∀ x, x ∈ xs ↔ x ∈ ys) : M.due xs = M.due ys := by
  have h1 : M.sorted xs = M.sorted ys := List.filter_congr fun x _ => decide_eq_decide.mpr (e x)
  unfold Mdl.due
  rw [h1]
  exact List.filter_congr fun l _ => full_congr e l
theorem due_sub (M : Mdl) (xs : List Str) : List.Sublist (M.due xs) M.labels := List.filter_sublist.trans List.filter_sublist
theorem fill_due {M : Mdl} (h : M.Lam) {xs : List Str} (hx : ∀ x ∈ xs, x ∈ M.labels) : (((fillT M.sgl M.ms (askedOf M.ms xs)).map (·.1)).map D.str) = (M.due xs).map .str := congrArg _ (names_due h hx)
inductive R_nright (C : Addr) : Pot → List D → D → Pot → Prop
  | mk (p : Pot) (M : Mdl) (h : M.Lam) : R_nright C p [mdlD M, bkD C M] (.bl true) (mixed p M.labels 9).p
section
variable {P : Program} {w : World} {K : PySem.W.Frag} {mg : Str → Option Value} {base : Heap}
abbrev s_nright : Stmt := top 52
abbrev N_nright : List Str := ["_law_pot_here", "_law_model", "_law_shelf", "_law_asked", "_law_some", "_law_due", "_law_told", "_law_label"]
theorem sc_nright : FnScope N_nright ["_law_pot_here", "_law_model", "_law_shelf"] (C8.fnScope s_nright) := C8.fnScope_by (by decide +kernel)
theorem ok_nright {C f : Addr} {fd : FuncData} (Fd : C8.Def K mg "_law_names_right" s_nright f fd) (b : Binds K fd ["_law_pot_here", "_law_model", "_law_shelf"] []) (T : Bi mg) (c_mixed : C8.Cal P w K mg base 2 "_law_mixed" (spP R_mixed) []) (c_labels : C8.Cal P w K mg base 1 "_law_labels" (spF R_labels) []) (c_sorted : C8.Cal P w K mg base 2 "_law_sorted_labels" (spF R_sorted) []) (c_full : C8.Cal P w K mg base 3 "_law_is_full" (spF R_full) [])
    (c_fnames : C8.Cal P w K mg base 4 "filled_names" (spN (R_fnames C)) []) (k_fnames : CalK2 P w K mg base 4 "filled_names" "names" "book" (spN (R_fnames C))) (c_poss : C8.Cal P w K mg base 4 "is_possible" (spF (R_poss C)) []) : CalG P w K mg base 5 "_law_names_right" (spP (R_nright C)) := by
  refine calg0 Fd b sc_nright (fun vs H Q h => len_P (fun p ds d p' h => by cases h; rfl) vs H Q _ h) fun cdv A outer s H vs Q hgd hr h => ?_
  refine ⟨_, (pss_cons (ps_set (i := 3) sc_nright.nd rfl (by first | exact Or.inl rfl | exact Or.inr rfl) (C8.pe_c c_mixed hr (by decide) rfl (pa_cons (pv 0) (pa_cons (C8.pe_c c_labels hr (by decide) rfl (pa_cons (pv 1) pa_nil)) (pa_cons pe_int pa_nil)))))
    (pss_cons (ps_set (i := 4) sc_nright.nd rfl (by first | exact Or.inl rfl | exact Or.inr rfl) (C8.pe_c c_sorted hr (by decide) rfl (pa_cons (pv 1) (pa_cons (pv 3) pa_nil))))
    (pss_cons (ps_setLc (i := 5) (own := [("_law_label", 7)]) (g := gName 7) rfl sc_nright.nd rfl rfl (sw_true rfl rfl rfl (by decide +kernel)) (pi_list (pv 4)) (blkOk_by (N := N_nright) (sc := C8.fnScope s_nright) (by decide +kernel)) (fun _ _ _ _ _ => (pg_name (i := 7) sc_nright.nd rfl (by first | exact Or.inl rfl | exact Or.inr rfl))) (fun _ _ _ _ _ => (pts_one (pt_val (C8.pe_c c_full hr (by decide) rfl (pa_cons (pv 1) (pa_cons (pv 3) (pa_cons (pv 7) pa_nil))))))) (fun _ _ _ _ _ => (pv 7)))
    (pss_cons (ps_set (i := 6) sc_nright.nd rfl (by first | exact Or.inl rfl | exact Or.inr rfl) (C8.pe_c c_fnames hr (by decide) rfl (pa_cons (pv 2) (pa_cons (pv 3) pa_nil))))
    (pss_cons (ps_if (pt_cmpR op_ne (pe_callB (k_repr rfl hgd (lt_u64 (k := 4) hr.un)) (by rfl) T.b_repr (by decide +kernel) (pa_cons (pv 6) pa_nil)) (pe_callB (k_repr rfl hgd (lt_u64 (k := 4) hr.un)) (by rfl) T.b_repr (by decide +kernel) (pa_cons (pv 5) pa_nil)) (nomark _)) (pss_one (ps_ret pe_bl)) pss_nil)
    (pss_cons (ps_expr (pe_bm PySem.F.plainAttrs_list PySem.F.slot_list_append PySem.F.type_list_append mt_append (pv 6) (pa_cons pe_str pa_nil)))
    (pss_cons (ps_if (pt_cmpR op_ne (pe_callB (k_repr rfl hgd (lt_u64 (k := 4) hr.un)) (by rfl) T.b_repr (by decide +kernel) (pa_cons (pe_lst (pa_cons (pe_ck2 k_fnames hr (by decide) rfl (pk_cons (pe_callTy (k_tuple rfl) (by rfl) T.b_tuple (by decide +kernel) (pa_cons (pv 3) pa_nil)) (pk_cons (pv 2) pk_nil))) (pa_cons (C8.pe_c c_fnames hr (by decide) rfl (pa_cons (pv 2) (pa_cons (pe_revL (pv 4)) pa_nil))) pa_nil))) pa_nil)) (pe_callB (k_repr rfl hgd (lt_u64 (k := 4) hr.un)) (by rfl) T.b_repr (by decide +kernel) (pa_cons (pe_lst (pa_cons (pv 5) (pa_cons (pv 5) pa_nil))) pa_nil)) (nomark _)) (pss_one (ps_ret pe_bl)) pss_nil)
    (pss_one (ps_ret (pe_and (C8.pe_c c_poss hr (by decide) rfl (pa_cons (pv 2) (pa_cons (pv 3) (pa_cons (pe_tup pa_nil) pa_nil)))) (pe_one (C8.pe_c c_poss hr (by decide) rfl (pa_cons (pv 2) (pa_cons (pv 3) (pa_cons (pe_callTy (k_tuple rfl) (by rfl) T.b_tuple (by decide +kernel) (pa_cons (pv 4) pa_nil)) pa_nil))))))))))))))), run_P h ?_⟩
  rintro p _ _ _ ⟨M, hM⟩ F -
  have h9 := hM.small.labels
  have hs1000 : (1000 : Nat) < sizeLine := by decide
  have hbig : (10000 : Nat) ≤ sizeLine := by decide
  have hln := labels_nodup hM
  obtain ⟨and_, ain⟩ := mixed_facts p 9 hln
  generalize hp' : (mixed p M.labels 9).p = p' 
  generalize ha : (mixed p M.labels 9).found = asked at and_ ain
  have hal : asked.length ≤ 9 := Nat.le_trans (nodup_le and_ ain) h9
  have hin : ∀ x ∈ asked, x ∈ M.ms.map (·.1) := fun x hx => by rw [ms_fst]; exact ain x hx
  have hmn : (M.ms.map (·.1)).Nodup := by rw [ms_fst]; exact hln
  have hsm := sorted_mem ain
  have hdue := due_sub M asked
  have hnm := nm_of hM hdue
  have hsl : (M.sorted asked).length ≤ 9 := Nat.le_trans (List.filter_sublist (l := M.labels)).length_le h9
  have hrin : ∀ x ∈ (M.sorted asked).reverse, x ∈ M.labels := fun x hx => (List.mem_filter.mp (List.mem_reverse.mp hx)).1
  have hrev : M.due (M.sorted asked).reverse = M.due asked := due_congr fun x => by rw [List.mem_reverse]; exact hsm x
  let st : List Slot → List Slot := fun r => [.cell 0, .dat (mdlD M), .dat (bkD C M), .dat (encL asked), .dat (encL (M.sorted asked)), .dat (encL (M.due asked))] ++ r
  refine ⟨_, .rt [.lst ((M.due asked).map .str ++ [.str "zz"]), .dead, .dead], ?_⟩
  refine ws_seq (ρ1 := [.cell 0, .dat (mdlD M), .dat (bkD C M), .dat (encL asked), .un, .un, .un, .un]) (μ1 := [potC p']) (ws_eqm (ws_set 3 (ev_eqd (ev_callP (ds := [encL M.labels, .int ((9 : Nat) : Int)]) (eva_cons (ev_var 0 rfl (by simp)) (eva_cons (ev_callF (ds := [mdlD M]) (R_labels.mk M hM.small) (eva_cons (ev_var 1 rfl (by simp)) eva_nil)) (eva_cons (ev_int _) eva_nil))) rfl (R_mixed.mk p M.labels 9 (by omega) (by omega))) (by rw [ha]))) (by rw [hp']; rfl)) ?_
  refine ws_seq (ws_set 4 (ev_callF (ds := [mdlD M, encL asked]) (R_sorted.mk M hM.small asked) (eva_cons (ev_var 1 rfl (by simp)) (eva_cons (ev_var 3 rfl (by simp)) eva_nil)))) ?_
  refine ws_seq (ρ1 := st [.un, .un]) (μ1 := [potC p']) (ws_set 5 (ev_lcF (α := Str) (enc := .str) (xs := M.sorted asked) (p := fun l => M.full asked l) (f := .str) (evi_list (ev_var 4 rfl (by simp))) ?a1 (by omega) (fun F' a => evg_name 7) (fun F' a _ => evt_val (ev_callF (ds := [mdlD M, encL asked, .str a]) (R_full.mk M hM.small asked a (by omega)) (eva_cons (ev_var 1 rfl (by simp)) (eva_cons (ev_var 3 rfl (by simp)) (eva_cons (ev_var 7 rfl (by simp)) eva_nil))))) (fun F' a _ _ => ev_var 7 rfl (by simp)))) ?_
  case a1 =>
    intro i hi
    cases List.mem_singleton.mp hi
    rfl
  refine ws_seq (ρ1 := st [.cell 1, .un]) (μ1 := [potC p', .lst ((M.due asked).map .str)]) (ws_eqm (ws_set 6 (ev_callN (ds := [bkD C M, encL asked]) (R_fnames.mk M.sgl M.ms asked (encL asked) (.inl rfl) and_ hin (ms_len hM) hmn) (eva_cons (ev_var 2 rfl (by simp)) (eva_cons (ev_var 3 rfl (by simp)) eva_nil)) 1 rfl)) (by rw [fill_due hM ain]; rfl)) ?_
  refine ws_seq (ws_if (b := false) (ev_teq (evt_test (ev_op (opd_neS (a := (pyL (M.due asked)).shown) (b := (pyL (M.due asked)).shown)) (ev_cbC (ds := (M.due asked).map .str) (cd_repr ⟨_, .inl rfl⟩ (pyL_of _) (pyL_show _) (pyL_dict _) ?b1 ?b2) rfl (eva_cons (ev_var 6 rfl (by simp)) eva_nil) rfl) (ev_repr (d := encL (M.due asked)) ⟨_, .inl rfl⟩ (pyL_of _) (pyL_show _) (pyL_dict _) ?b1 ?b2 (ev_var 5 rfl (by simp))))) (by simp)) (fun e => by cases e) (fun _ => ws_next)) ?_
  case b1 => exact Nat.le_trans (pyL_depth _) (by decide)
  case b2 => exact Nat.le_trans hnm.shown (Nat.le_of_lt hs1000)
  refine ws_seq (ρ1 := st [.cell 1, .un]) (μ1 := [potC p', .lst ((M.due asked).map .str ++ [.str "zz"])]) (ws_drop (ev_eqm (ev_mut (ds := (M.due asked).map .str) (es := [.str "zz"]) (μ2 := [potC p', .lst ((M.due asked).map .str)]) (md_append ?c1) (ev_var 6 rfl (by simp)) (eva_cons (ev_str _) eva_nil) ⟨_, rfl⟩ rfl) rfl)) ?_
  case c1 =>
    rw [List.length_map]
    exact Nat.lt_of_le_of_lt (Nat.le_trans hnm.len (by decide)) hs1000
  refine ws_seq (ρ1 := st [.cell 1, .un]) (μ1 := [potC p', .lst ((M.due asked).map .str ++ [.str "zz"]), .dead, .dead]) (ws_if (b := false) (ev_teq (evt_test (ev_op (opd_neS (a := (pyLL [M.due asked, M.due asked]).shown) (b := (pyLL [M.due asked, M.due asked]).shown)) (ev_repr (d := .lst [encL (M.due asked), encL (M.due asked)]) ⟨_, .inl rfl⟩ (pyLL_of [M.due asked, M.due asked]) (pyLL_show _) (pyLL_dict _) ?d1 ?d2 (ev_lst (ds := [encL (M.due asked), encL (M.due asked)])
      (eva_cons (ev_eqm (ev_free (k := 2) (ev_eqm (ev_callNK (d1 := encT asked) (d2 := bkD C M) (R_fnames.mk M.sgl M.ms asked (encT asked) (.inr rfl) and_ hin (ms_len hM) hmn) (eva_cons (ev_cb (ds := [encL asked]) (cd_tuple (.inl rfl)) (eva_cons (ev_var 3 rfl (by simp)) eva_nil)) (eva_cons (ev_var 2 rfl (by simp)) eva_nil)) 2 rfl) (show _ = [potC p', Cell.lst ((M.due asked).map .str ++ [.str "zz"]), .lst ((M.due asked).map .str)] by rw [fill_due hM ain]; rfl)) rfl) rfl)
      (eva_cons (ev_eqm (ev_free (k := 3) (ev_eqm (ev_callN (ds := [bkD C M, encL (M.sorted asked).reverse]) (R_fnames.mk M.sgl M.ms (M.sorted asked).reverse (encL (M.sorted asked).reverse) (.inl rfl) ?e1 ?e2 (ms_len hM) hmn) (eva_cons (ev_var 2 rfl (by simp)) (eva_cons (ev_eqd (ev_revL (ev_var 4 rfl (by simp))) ?e3) eva_nil)) 3 rfl) (show _ = [potC p', Cell.lst ((M.due asked).map .str ++ [.str "zz"]), .dead, .lst ((M.due asked).map .str)] by rw [fill_due hM hrin, hrev]; rfl)) rfl) rfl) eva_nil)) ?d3))
      (ev_repr (d := .lst [encL (M.due asked), encL (M.due asked)]) ⟨_, .inl rfl⟩ (pyLL_of [M.due asked, M.due asked]) (pyLL_show _) (pyLL_dict _) ?d1 ?d2 (ev_lst (ds := [encL (M.due asked), encL (M.due asked)]) (eva_cons (ev_var 5 rfl (by simp)) (eva_cons (ev_var 5 rfl (by simp)) eva_nil)) ?d3)))) (by simp)) (fun e => by cases e) (fun _ => ws_next)) ?_
  case d1 => exact Nat.le_trans (pyLL_depth _) (by decide)
  case d2 =>
    refine Nat.le_trans (pyLL_shown (by simp) fun xs hx => ?_) hbig
    simp at hx
    rw [hx]
    exact hnm
  case d3 => exact Nat.le_trans (show (2 : Nat) ≤ 1000 by decide) (Nat.le_of_lt hs1000)
  case e1 => exact ((List.reverse_perm _).nodup_iff).mpr (hln.filter _)
  case e2 =>
    intro x hx
    rw [ms_fst]
    exact (List.mem_filter.mp (List.mem_reverse.mp hx)).1
  case e3 => exact congrArg D.lst (List.map_reverse).symm
  have hself := asked_self hM asked
  have hsub : ∀ m ∈ M.sorted asked, m ∈ M.labels := fun m hm => (List.mem_filter.mp hm).1
  have hsn : (M.sorted asked).Nodup := hln.filter _
  refine ws_ret (ev_and (b := true) (c := true) (ev_eqd (ev_callF (ds := [bkD C M, encL asked, encT []]) (R_poss.mk M.sgl M.ms asked [] (encL asked) (.inl rfl) and_ hin (ms_len hM) hmn (by simp)) (eva_cons (ev_var 2 rfl (by simp)) (eva_cons (ev_var 3 rfl (by simp)) (eva_cons (ev_tup (ds := []) eva_nil (Nat.zero_le _)) eva_nil)))) ?f1) fun _ => (ev_eqd (ev_callF (ds := [bkD C M, encL asked, encT (M.sorted asked)]) (R_poss.mk M.sgl M.ms asked (M.sorted asked) (encL asked) (.inl rfl) and_ hin (ms_len hM) hmn ?f2) (eva_cons (ev_var 2 rfl (by simp)) (eva_cons (ev_var 3 rfl (by simp)) (eva_cons (ev_cb (ds := [encL (M.sorted asked)]) (cd_tuple (.inl rfl)) (eva_cons (ev_var 4 rfl (by simp)) eva_nil)) eva_nil)))) ?f3))
  case f1 => rw [hself, poss_empty hM hsn hsub]
  case f2 =>
    rw [hself]
    exact (List.filter_eq_self.mpr fun x hx => decide_eq_true hx).symm
  case f3 => rw [hself, poss_all hM hsn hsub]
end
end Dl
end
section
set_option Elab.async false
set_option maxRecDepth 100000
set_option maxHeartbeats 4000000
set_option linter.all false
namespace Dl
open PySem L2 ClX
/-! ### the law: each label alone -/
def keepS (l : Str) (p : Pot) (xs : List Str) : Nat → Pot × List Str
  | 0 => (p, [])
  | i + 1 => match xs[i]? with
    | none => keepS l p xs i
    | some x => if x = l then ((keepS l p xs i).1, (keepS l p xs i).2 ++ [x]) else
      if 0 < (keepS l p xs i).1.draw 4 then ((keepS l p xs i).1.next 4, (keepS l p xs i).2 ++ [x]) else ((keepS l p xs i).1.next 4, (keepS l p xs i).2)
theorem keepS_sub (l : Str) (p : Pot) (xs : List Str) : ∀ i, List.Sublist (keepS l p xs i).2 (xs.take i)
  | 0 => List.nil_sublist _
  | i + 1 => by
    have ih := keepS_sub l p xs i
    unfold keepS
    cases e : xs[i]? with
    | none =>
      have : xs.length ≤ i := List.getElem?_eq_none_iff.mp e
      rw [List.take_of_length_le (by omega)]
      rw [List.take_of_length_le this] at ih
      exact ih
    | some x =>
      rw [List.take_add_one, e, Option.toList_some]
      dsimp only
      split
      · exact ih.append (List.Sublist.refl _)
      · split
        · exact ih.append (List.Sublist.refl _)
        · exact ih.trans (List.sublist_append_left _ _)
theorem keepS_me (l : Str) (p : Pot) (xs : List Str) : ∀ i, l ∈ xs.take i → l ∈ (keepS l p xs i).2
  | 0, h => by simp at h
  | i + 1, h => by
    have ih := keepS_me l p xs i
    unfold keepS
    cases e : xs[i]? with
    | none =>
      have : xs.length ≤ i := List.getElem?_eq_none_iff.mp e
      rw [List.take_of_length_le (by omega)] at h
      rw [List.take_of_length_le this] at ih
      exact ih h
    | some x =>
      rw [List.take_add_one, e, Option.toList_some] at h
      dsimp only
      rcases List.mem_append.mp h with q | q
      · have := ih q
        split
        · exact List.mem_append_left _ this
        · split
          · exact List.mem_append_left _ this
          · exact this
      · have q : l = x := List.mem_singleton.mp q
        subst q
        rw [if_pos rfl]
        exact List.mem_append_right _ List.mem_cons_self
def Mdl.low (M : Mdl) (l : Str) : List Str := M.labels.filter fun x => decide (x = l) || decide (x ∈ M.inner M.labels l)
def aloneP (M : Mdl) (p : Pot) : Nat → Pot
  | 0 => p
  | i + 1 => (keepS (M.labels.getD i "") (aloneP M p i) (M.low (M.labels.getD i "")) (M.low (M.labels.getD i "")).length).1
inductive R_alone (C : Addr) : Pot → List D → D → Pot → Prop
  | mk (p : Pot) (M : Mdl) (h : M.Lam) : R_alone C p [mdlD M, bkD C M] (.bl true) (aloneP M p M.labels.length)
theorem kept_some {M : Mdl} {l : Str} {p : Pot} : M.Some (keepS l p (M.low l) (M.low l).length).2 := ⟨by
  have h := keepS_sub l p (M.low l) (M.low l).length
  rw [List.take_length] at h
  exact h.trans List.filter_sublist⟩
theorem kept_below {M : Mdl} {l : Str} {p : Pot} (hl : l ∈ M.labels) : M.Below (keepS l p (M.low l) (M.low l).length).2 l where
  me := keepS_me l p _ _ (by
    rw [List.take_length]
    exact List.mem_filter.mpr ⟨hl, by simp⟩)
  lo := fun m hm => by
    have h := keepS_sub l p (M.low l) (M.low l).length
    rw [List.take_length] at h
    have := (List.mem_filter.mp (h.subset hm)).2
    rcases Bool.or_eq_true_iff.mp this with q | q
    · exact .inl (of_decide_eq_true q)
    · exact .inr (of_decide_eq_true q)
section
variable {P : Program} {w : World} {K : PySem.W.Frag} {mg : Str → Option Value} {base : Heap}
abbrev s_alone : Stmt := top 53
abbrev N_alone : List Str := ["_law_pot_here", "_law_model", "_law_shelf", "_law_labels_here", "_law_label", "_law_some", "_law_less"]
theorem sc_alone : FnScope N_alone ["_law_pot_here", "_law_model", "_law_shelf"] (C8.fnScope s_alone) := C8.fnScope_by (by decide +kernel)
theorem ok_alone {C f : Addr} {fd : FuncData} (Fd : C8.Def K mg "_law_alone_right" s_alone f fd) (b : Binds K fd ["_law_pot_here", "_law_model", "_law_shelf"] []) (T : Bi mg) (c_law_draw : C8.Cal P w K mg base 1 "_law_draw" (spP R_draw) []) (c_labels : C8.Cal P w K mg base 1 "_law_labels" (spF R_labels) []) (c_inner : C8.Cal P w K mg base 2 "_law_inner" (spF R_inner) []) (c_full : C8.Cal P w K mg base 3 "_law_is_full" (spF R_full) [])
    (g_barred : CalG P w K mg base 5 "_law_barred_right" (spF (R_barred C))) : CalG P w K mg base 6 "_law_alone_right" (spP (R_alone C)) := by
  refine calg0 Fd b sc_alone (fun vs H Q h => len_P (fun p ds d p' h => by cases h; rfl) vs H Q _ h) fun cdv A outer s H vs Q hgd hr h => ?_
  refine ⟨_, (pss_cons (ps_set (i := 3) sc_alone.nd rfl (by first | exact Or.inl rfl | exact Or.inr rfl) (C8.pe_c c_labels hr (by decide) rfl (pa_cons (pv 1) pa_nil)))
    (pss_cons (ps_for PassesOwn.never rfl (pi_list (pv 3)) (pg_name (i := 4) sc_alone.nd rfl (by first | exact Or.inl rfl | exact Or.inr rfl))
      (pss_cons (ps_setLc (i := 5) (own := [("_law_less", 6)]) (g := gName 6) rfl sc_alone.nd rfl rfl (sw_true rfl rfl rfl (by decide +kernel)) (pi_list (pv 3)) (blkOk_by (N := N_alone) (sc := C8.fnScope s_alone) (by decide +kernel)) (fun _ _ _ _ _ => (pg_name (i := 6) sc_alone.nd rfl (by first | exact Or.inl rfl | exact Or.inr rfl)))
        (fun _ _ _ _ _ => (pts_one (PW.pt (pw_or (pt_cmpR op_eq (pv 6) (pv 4) (nomark _)) (pw_or1 (pt_cmpR (k_in rfl) (pv 6) (C8.pe_c c_inner hr (by decide) rfl (pa_cons (pv 1) (pa_cons (pv 3) (pa_cons (pv 4) pa_nil)))) (by rfl))))))) (fun _ _ _ _ _ => (pv 6)))
      (pss_cons (ps_setLc (i := 5) (own := [("_law_less", 6)]) (g := gName 6) rfl sc_alone.nd rfl rfl (sw_true rfl rfl rfl (by decide +kernel)) (pi_list (pv 5)) (blkOk_by (N := N_alone) (sc := C8.fnScope s_alone) (by decide +kernel)) (fun _ _ _ _ _ => (pg_name (i := 6) sc_alone.nd rfl (by first | exact Or.inl rfl | exact Or.inr rfl)))
        (fun _ _ _ _ _ => (pts_one (PW.pt (pw_or (pt_cmpR op_eq (pv 6) (pv 4) (nomark _)) (pw_or1 (pt_cmpR op_gt (C8.pe_c c_law_draw hr (by decide) rfl (pa_cons (pv 0) (pa_cons pe_int pa_nil))) pe_int (nomark _))))))) (fun _ _ _ _ _ => (pv 6)))
      (pss_one (ps_if (pt_not (pt_val (pe_g g_barred hgd hr (by decide) rfl (pa_cons (pv 2) (pa_cons (pv 1) (pa_cons (pv 5) (pa_cons (pv 4) (pa_cons (C8.pe_c c_full hr (by decide) rfl (pa_cons (pv 1) (pa_cons (pv 5) (pa_cons (pv 4) pa_nil)))) pa_nil)))))))) (pss_one (ps_ret pe_bl)) pss_nil)))))
    (pss_one (ps_ret pe_bl)))), run_P h ?_⟩
  rintro p _ _ _ ⟨M, hM⟩ F -
  have h9 := hM.small.labels
  refine ⟨_, .rt [], ?_⟩
  refine ws_seq (ws_set 3 (ev_callF (ds := [mdlD M]) (R_labels.mk M hM.small) (eva_cons (ev_var 1 rfl (by simp)) eva_nil))) ?_
  let S : Nat → List Slot × List Cell := fun i => ([.cell 0, .dat (mdlD M), .dat (bkD C M), .dat (encL M.labels), .un, .un, .un], [potC (aloneP M p i)])
  refine ws_seq (ρ1 := (S M.labels.length).1) (μ1 := (S M.labels.length).2) (ws_forN M.labels.length [4] S (evi_list (xs := M.labels.map .str) (ev_var 3 rfl (by simp))) rfl (List.length_map _) ?turn) (ws_ret (ev_bl true))
  intro i d hd
  rw [List.getElem?_map] at hd
  obtain ⟨l, el, rfl⟩ := Option.map_eq_some_iff.mp hd
  have hl : l ∈ M.labels := List.mem_of_getElem? el
  have hgd : M.labels.getD i "" = l := by rw [List.getD_eq_getElem?_getD, el]; rfl
  have hlow : (M.low l).length ≤ 9 := Nat.le_trans (List.filter_sublist (l := M.labels)).length_le h9
  have es : S (i + 1) = ([.cell 0, .dat (mdlD M), .dat (bkD C M), .dat (encL M.labels), .un, .un, .un], [potC (keepS l (aloneP M p i) (M.low l) (M.low l).length).1]) := by
    show (_, [potC (aloneP M p (i + 1))]) = _
    rw [aloneP, hgd]
  have eS : S i = ([.cell 0, .dat (mdlD M), .dat (bkD C M), .dat (encL M.labels), .un, .un, .un], [potC (aloneP M p i)]) := rfl
  rw [es, eS]
  dsimp only
  clear es eS
  clear_value S
  generalize aloneP M p i = q
  have ks := kept_some (M := M) (l := l) (p := q)
  have kb := kept_below (M := M) (l := l) (p := q) hl
  have h6 : ∀ r : Slot, ∀ i ∈ ([6] : List Nat), ([.cell 0, .dat (mdlD M), .dat (bkD C M), .dat (encL M.labels), .dat (.str l), r, .un] : List Slot)[i]? = some .un := fun r i hi => by
    cases List.mem_singleton.mp hi
    rfl
  generalize hk : (keepS l q (M.low l) (M.low l).length) = kk at ks kb ⊢
  refine ⟨_, evg_name 4, .inl (ws_weak (ρ1 := [.cell 0, .dat (mdlD M), .dat (bkD C M), .dat (encL M.labels), .dat (.str l), .dat (encL kk.2), .un]) ?_ ?_)⟩
  rotate_left
  · repeat first | exact .nil | refine .cons (.inl rfl) ?_ | refine .cons (.inr rfl) ?_
  refine ws_seq (ρ1 := [.cell 0, .dat (mdlD M), .dat (bkD C M), .dat (encL M.labels), .dat (.str l), .dat (encL (M.low l)), .un]) (μ1 := [potC q]) (ws_set 5 (ev_lcF (α := Str) (enc := .str) (xs := M.labels) (p := fun x => decide (x = l) || decide (x ∈ M.inner M.labels l)) (f := .str) (evi_list (ev_var 3 rfl (by simp))) (h6 _) (by omega) (fun F' a => evg_name 6) (fun F' a _ => ev_tmu (μ2 := [potC q]) (evt_or (evt_test (ev_op opd_eqS (ev_var 6 rfl (by simp)) (ev_var 4 rfl (by simp)))) fun _ => evt_test (ev_op opd_inS (ev_var 6 rfl (by simp)) (ev_callF (ds := [mdlD M, encL M.labels, .str l]) (R_inner.mk M hM.small M.labels l (by omega)) (eva_cons (ev_var 1 rfl (by simp)) (eva_cons (ev_var 3 rfl (by simp)) (eva_cons (ev_var 4 rfl (by simp)) eva_nil)))))) (by split <;> rfl)) (fun F' a _ _ => ev_var 6 rfl (by simp)))) ?_
  refine ws_seq (ρ1 := [.cell 0, .dat (mdlD M), .dat (bkD C M), .dat (encL M.labels), .dat (.str l), .dat (encL kk.2), .un]) (μ1 := [potC kk.1]) (ws_eqm (ws_set 5 (ev_eqd (ev_lcN (M.low l).length (evi_list (xs := (M.low l).map .str) (ev_var 5 rfl (by simp))) (List.length_map _) (h6 _) (by omega) (fun j => [potC (keepS l q (M.low l) j).1]) rfl (fun j => (keepS l q (M.low l) j).2.map .str) rfl ?a1) (by rw [hk]; rfl))) (by rw [hk])) ?_
  case a1 =>
    intro j d hd F'
    rw [List.getElem?_map] at hd
    obtain ⟨x, ex, rfl⟩ := Option.map_eq_some_iff.mp hd
    have e1 : keepS l q (M.low l) (j + 1) = if x = l then ((keepS l q (M.low l) j).1, (keepS l q (M.low l) j).2 ++ [x]) else
      if 0 < (keepS l q (M.low l) j).1.draw 4 then ((keepS l q (M.low l) j).1.next 4, (keepS l q (M.low l) j).2 ++ [x]) else ((keepS l q (M.low l) j).1.next 4, (keepS l q (M.low l) j).2) := by
      rw [keepS, ex]
    rw [e1]
    generalize keepS l q (M.low l) j = z
    by_cases c1 : x = l
    · rw [if_pos c1]
      refine ⟨_, evg_name 6, true, [potC z.1], ev_tmu (ev_teq (evt_or (b := true) (c := true) (μ2 := [potC z.1]) (ev_teq (evt_test (ev_op opd_eqS (ev_var 6 rfl (by simp)) (ev_var 4 rfl (by simp)))) (decide_eq_true c1)) fun e => by cases e) rfl) rfl, ?_⟩
      rw [if_pos rfl]
      exact ⟨.str x, ev_var 6 rfl (by simp), by rw [List.map_append]; rfl⟩
    · rw [if_neg c1]
      refine ⟨_, evg_name 6, decide (0 < z.1.draw 4), [potC (z.1.next 4)], ev_tmu (ev_teq (evt_or (b := false) (ev_teq (evt_test (ev_op opd_eqS (ev_var 6 rfl (by simp)) (ev_var 4 rfl (by simp)))) (decide_eq_false c1)) fun _ => evt_test (ev_op opd_gt (ev_callP (ds := [.int ((4 : Nat) : Int)]) (eva_cons (ev_var 0 rfl (by simp)) (eva_cons (ev_int _) eva_nil)) rfl (R_draw.mk z.1 4 (by decide) (by decide))) (ev_int _))) ?b1) rfl, ?_⟩
      case b1 =>
        rw [Bool.false_or]
        exact decide_eq_decide.mpr (by omega)
      by_cases c2 : 0 < z.1.draw 4
      · rw [if_pos (decide_eq_true c2), if_pos c2]
        exact ⟨.str x, ev_var 6 rfl (by simp), by rw [List.map_append]; rfl⟩
      · rw [if_neg (by simpa using c2), if_neg c2]
        exact ⟨rfl, rfl⟩
  have hsl : kk.2.length ≤ 9 := Nat.le_trans ks.sub.length_le h9
  exact ws_if (b := false) (ev_teq (evt_not (evt_val (ev_callF (ds := [bkD C M, mdlD M, encL kk.2, .str l, .bl (M.full kk.2 l)]) (R_barred.mk M hM kk.2 l ks kb) (eva_cons (ev_var 2 rfl (by simp)) (eva_cons (ev_var 1 rfl (by simp)) (eva_cons (ev_var 5 rfl (by simp)) (eva_cons (ev_var 4 rfl (by simp)) (eva_cons (ev_callF (ds := [mdlD M, encL kk.2, .str l]) (R_full.mk M hM.small kk.2 l (by omega)) (eva_cons (ev_var 1 rfl (by simp)) (eva_cons (ev_var 5 rfl (by simp)) (eva_cons (ev_var 4 rfl (by simp)) eva_nil)))) eva_nil)))))))) rfl) (fun e => by cases e) (fun _ => ws_next)
end
end Dl
end
section
set_option Elab.async false
set_option maxRecDepth 100000
set_option maxHeartbeats 4000000
set_option linter.all false
namespace Dl
open PySem L2 ClX
/-! ### the law: two books -/
inductive R_two : List D → D → Prop
  | mk (M : Mdl) (h : M.Lam) : R_two [mdlD M] (.bl true)
theorem turned_labels (M : Mdl) : M.turned.labels = M.labels := by
  unfold Mdl.labels Mdl.turned
  dsimp only
  rw [List.map_map]
  rfl
theorem due_all (M : Mdl) : M.due M.labels = M.labels.filter fun l => M.full M.labels l := by
  unfold Mdl.due Mdl.sorted
  rw [List.filter_eq_self.mpr fun x hx => decide_eq_true hx]
section
variable {P : Program} {w : World} {K : PySem.W.Frag} {mg : Str → Option Value} {base : Heap}
abbrev s_two : Stmt := top 55
abbrev N_two : List Str := ["_law_model", "_law_labels_here", "_law_mate", "_law_due", "_law_shelf", "_law_other", "_law_told", "_law_label"]
theorem sc_two : FnScope N_two ["_law_model"] (C8.fnScope s_two) := C8.fnScope_by (by decide +kernel)
theorem ok_two {C f : Addr} {fd : FuncData} (Fd : C8.Def K mg "_law_two_right" s_two f fd) (b : Binds K fd ["_law_model"] []) (T : Bi mg) (c_labels : C8.Cal P w K mg base 1 "_law_labels" (spF R_labels) []) (c_turned : C8.Cal P w K mg base 1 "_law_turned" (spF R_turned) []) (c_full : C8.Cal P w K mg base 3 "_law_is_full" (spF R_full) []) (c_book : C8.Cal P w K mg base 6 "_law_book" (spF (R_book C)) [])
    (c_fnames : C8.Cal P w K mg base 4 "filled_names" (spN (R_fnames C)) []) : CalG P w K mg base 7 "_law_two_right" (spF R_two) := by
  refine calg0 Fd b sc_two (fun vs H Q h => len_F (fun ds d h => by cases h; rfl) vs H Q _ h) fun cdv A outer s H vs Q hgd hr h => ?_
  refine ⟨_, (pss_cons (ps_asg (pe_tup (pa_cons (C8.pe_c c_labels hr (by decide) rfl (pa_cons (pv 0) pa_nil)) (pa_cons (C8.pe_c c_turned hr (by decide) rfl (pa_cons (pv 0) pa_nil)) pa_nil))) (pg_tup rfl (pgs_cons (pg_name (i := 1) sc_two.nd rfl (by first | exact Or.inl rfl | exact Or.inr rfl)) (pgs_cons (pg_name (i := 2) sc_two.nd rfl (by first | exact Or.inl rfl | exact Or.inr rfl)) pgs_nil))))
    (pss_cons (ps_set (i := 3) sc_two.nd rfl (by first | exact Or.inl rfl | exact Or.inr rfl) (pe_lst (pa_cons (pe_lc (own := [("_law_label", 7)]) (g := gName 7) rfl sc_two.nd (pi_list (pv 1)) (blkOk_by (N := N_two) (sc := C8.fnScope s_two) (by decide +kernel)) (fun _ _ _ _ _ => (pg_name (i := 7) sc_two.nd rfl (by first | exact Or.inl rfl | exact Or.inr rfl))) (fun _ _ _ _ _ => (pts_one (pt_val (C8.pe_c c_full hr (by decide) rfl (pa_cons (pv 0) (pa_cons (pv 1) (pa_cons (pv 7) pa_nil))))))) (fun _ _ _ _ _ => (pv 7))) pa_nil)))
    (pss_cons (ps_expr (pe_bm PySem.F.plainAttrs_list PySem.F.slot_list_append PySem.F.type_list_append mt_append (pv 3) (pa_cons (pe_lc (own := [("_law_label", 7)]) (g := gName 7) rfl sc_two.nd (pi_list (pv 1)) (blkOk_by (N := N_two) (sc := C8.fnScope s_two) (by decide +kernel)) (fun _ _ _ _ _ => (pg_name (i := 7) sc_two.nd rfl (by first | exact Or.inl rfl | exact Or.inr rfl))) (fun _ _ _ _ _ => (pts_one (pt_val (C8.pe_c c_full hr (by decide) rfl (pa_cons (pv 2) (pa_cons (pv 1) (pa_cons (pv 7) pa_nil))))))) (fun _ _ _ _ _ => (pv 7))) pa_nil)))
    (pss_cons (ps_par (i := 4) (j := 5) rfl sc_two.nd rfl rfl (by decide) rfl rfl (pa_cons (C8.pe_c c_book hr (by decide) rfl (pa_cons (pv 0) pa_nil)) (pa_cons (C8.pe_c c_book hr (by decide) rfl (pa_cons (pv 2) pa_nil)) pa_nil)) (by rfl))
    (pss_cons (ps_set (i := 6) sc_two.nd rfl (by first | exact Or.inl rfl | exact Or.inr rfl) (pe_lst (pa_cons (C8.pe_c c_fnames hr (by decide) rfl (pa_cons (pv 4) (pa_cons (pv 1) pa_nil))) (pa_cons (C8.pe_c c_fnames hr (by decide) rfl (pa_cons (pv 5) (pa_cons (pv 1) pa_nil))) (pa_cons (C8.pe_c c_fnames hr (by decide) rfl (pa_cons (pv 4) (pa_cons (pv 1) pa_nil))) pa_nil)))))
    (pss_one (ps_ret (pe_cmpR op_eq (pe_callB (k_repr rfl hgd (lt_u64 (k := 6) hr.un)) (by rfl) T.b_repr (by decide +kernel) (pa_cons (pv 6) pa_nil)) (pe_callB (k_repr rfl hgd (lt_u64 (k := 6) hr.un)) (by rfl) T.b_repr (by decide +kernel) (pa_cons (pe_op op_cat (pv 3) (pe_lst (pa_cons (pe_ix (k_ixL rfl) (pv 3) pe_int (fun _ _ => rfl)) pa_nil))) pa_nil)) (nomark _))))))))), run_F h ?_⟩
  rintro _ _ ⟨M, hM⟩ F -
  have hT : M.turned.Lam := turned_lam hM
  have h9 := hM.small.labels
  have hs1000 : (1000 : Nat) < sizeLine := by decide
  have hbig : (10000 : Nat) ≤ sizeLine := by decide
  have hln := labels_nodup hM
  have htl := turned_labels M
  have hin1 : ∀ x ∈ M.labels, x ∈ M.ms.map (·.1) := fun x hx => by rw [ms_fst]; exact hx
  have hin2 : ∀ x ∈ M.labels, x ∈ M.turned.ms.map (·.1) := fun x hx => by rw [ms_fst, htl]; exact hx
  have hmn1 : (M.ms.map (·.1)).Nodup := by rw [ms_fst]; exact hln
  have hmn2 : (M.turned.ms.map (·.1)).Nodup := by rw [ms_fst, htl]; exact hln
  have hf1 := fill_due hM (xs := M.labels) fun x hx => hx
  have hf2 := fill_due hT (xs := M.labels) fun x hx => by rw [htl]; exact hx
  have n1 : Nm (M.due M.labels) := nm_of hM (due_sub M _)
  have n2 : Nm (M.turned.due M.labels) := nm_of hT (due_sub _ _)
  have e1 : (M.labels.filter fun l => M.full M.labels l) = M.due M.labels := (due_all M).symm
  have e2 : (M.labels.filter fun l => M.turned.full M.labels l) = M.turned.due M.labels := by
    have := due_all M.turned
    rw [htl] at this
    exact this.symm
  generalize M.due M.labels = d1 at hf1 n1 e1
  generalize M.turned.due M.labels = d2 at hf2 n2 e2
  let st : List Slot → List Slot := fun r => [.dat (mdlD M), .dat (encL M.labels), .dat (mdlD M.turned)] ++ r
  refine ⟨_, .rt [.dead, .dead, .dead, .dead], ?_⟩
  refine ws_seq (ρ1 := st [.un, .un, .un, .un, .un]) (μ1 := []) (ws_tup2 1 2 (eva_cons (ev_callF (ds := [mdlD M]) (R_labels.mk M hM.small) (eva_cons (ev_var 0 rfl (by simp)) eva_nil)) (eva_cons (ev_callF (ds := [mdlD M]) (R_turned.mk M hM.toNeat) (eva_cons (ev_var 0 rfl (by simp)) eva_nil)) eva_nil))) ?_
  have h7 : ∀ r : Slot, ∀ i ∈ ([7] : List Nat), (st [r, .un, .un, .un, .un])[i]? = some .un := fun r i hi => by
    cases List.mem_singleton.mp hi
    rfl
  refine ws_seq (ρ1 := st [.cell 0, .un, .un, .un, .un]) (μ1 := [.lst [encL d1]]) (ws_set 3 (ev_lstO (μ1 := []) (ds := [encL d1]) (eva_cons (ev_eqd (ev_lcF (α := Str) (enc := .str) (xs := M.labels) (p := fun l => M.full M.labels l) (f := .str) (evi_list (ev_var 1 rfl (by simp))) (h7 _) (by omega) (fun F' a => evg_name 7) (fun F' a _ => evt_val (ev_callF (ds := [mdlD M, encL M.labels, .str a]) (R_full.mk M hM.small M.labels a (by omega)) (eva_cons (ev_var 0 rfl (by simp)) (eva_cons (ev_var 1 rfl (by simp)) (eva_cons (ev_var 7 rfl (by simp)) eva_nil))))) (fun F' a _ _ => ev_var 7 rfl (by simp))) (congrArg encL e1)) eva_nil) ?a1 0 rfl)) ?_
  case a1 => exact Nat.le_trans (show (1 : Nat) ≤ 1000 by decide) (Nat.le_of_lt hs1000)
  refine ws_seq (ρ1 := st [.cell 0, .un, .un, .un, .un]) (μ1 := [.lst [encL d1, encL d2]]) (ws_drop (ev_eqm (ev_mut (ds := [encL d1]) (es := [encL d2]) (μ2 := [.lst [encL d1]]) (md_append ?a2) (ev_var 3 rfl (by simp)) (eva_cons (ev_eqd (ev_lcF (α := Str) (enc := .str) (xs := M.labels) (p := fun l => M.turned.full M.labels l) (f := .str) (evi_list (ev_var 1 rfl (by simp))) (h7 _) (by omega) (fun F' a => evg_name 7) (fun F' a _ => evt_val (ev_callF (ds := [mdlD M.turned, encL M.labels, .str a]) (R_full.mk M.turned hT.small M.labels a (by omega)) (eva_cons (ev_var 2 rfl (by simp)) (eva_cons (ev_var 1 rfl (by simp)) (eva_cons (ev_var 7 rfl (by simp)) eva_nil))))) (fun F' a _ _ => ev_var 7 rfl (by simp))) (congrArg encL e2)) eva_nil) ⟨_, rfl⟩ rfl) rfl)) ?_
  case a2 => exact Nat.lt_of_le_of_lt (show (1 : Nat) ≤ 1000 by decide) hs1000
  refine ws_seq (ρ1 := st [.cell 0, .dat (bkD C M), .dat (bkD C M.turned), .un, .un]) (μ1 := [.lst [encL d1, encL d2]]) (ws_par2' 4 5 (eva_cons (ev_callF (ds := [mdlD M]) (R_book.mk M hM) (eva_cons (ev_var 0 rfl (by simp)) eva_nil)) (eva_cons (ev_callF (ds := [mdlD M.turned]) (R_book.mk M.turned hT) (eva_cons (ev_var 2 rfl (by simp)) eva_nil)) eva_nil)) rfl) ?_
  refine ws_seq (ρ1 := st [.cell 0, .dat (bkD C M), .dat (bkD C M.turned), .dat (.lst [encL d1, encL d2, encL d1]), .un]) (μ1 := [.lst [encL d1, encL d2], .dead, .dead, .dead]) (ws_set 6 (ev_lst (ds := [encL d1, encL d2, encL d1])
    (eva_cons (ev_eqm (ev_free (k := 1) (ev_eqm (ev_callN (ds := [bkD C M, encL M.labels]) (R_fnames.mk M.sgl M.ms M.labels (encL M.labels) (.inl rfl) hln hin1 (ms_len hM) hmn1) (eva_cons (ev_var 4 rfl (by simp)) (eva_cons (ev_var 1 rfl (by simp)) eva_nil)) 1 rfl) (show _ = [Cell.lst [encL d1, encL d2], .lst (d1.map .str)] by rw [hf1]; rfl)) rfl) rfl)
    (eva_cons (ev_eqm (ev_free (k := 2) (ev_eqm (ev_callN (ds := [bkD C M.turned, encL M.labels]) (R_fnames.mk M.turned.sgl M.turned.ms M.labels (encL M.labels) (.inl rfl) hln hin2 (ms_len hT) hmn2) (eva_cons (ev_var 5 rfl (by simp)) (eva_cons (ev_var 1 rfl (by simp)) eva_nil)) 2 rfl) (show _ = [Cell.lst [encL d1, encL d2], .dead, .lst (d2.map .str)] by rw [hf2]; rfl)) rfl) rfl)
    (eva_cons (ev_eqm (ev_free (k := 3) (ev_eqm (ev_callN (ds := [bkD C M, encL M.labels]) (R_fnames.mk M.sgl M.ms M.labels (encL M.labels) (.inl rfl) hln hin1 (ms_len hM) hmn1) (eva_cons (ev_var 4 rfl (by simp)) (eva_cons (ev_var 1 rfl (by simp)) eva_nil)) 3 rfl) (show _ = [Cell.lst [encL d1, encL d2], .dead, .dead, .lst (d1.map .str)] by rw [hf1]; rfl)) rfl) rfl) eva_nil))) ?a3)) ?_
  case a3 => exact Nat.le_trans (show (3 : Nat) ≤ 1000 by decide) (Nat.le_of_lt hs1000)
  refine ws_free (i := 3) (k := 0) rfl rfl ?_
  have hsh : (pyLL [d1, d2, d1]).shown.length ≤ sizeLine := by
    refine Nat.le_trans (pyLL_shown (by simp) fun xs hx => ?_) hbig
    simp at hx
    rcases hx with rfl | rfl | rfl
    · exact n1
    · exact n2
    · exact n1
  have hdp : (pyLL [d1, d2, d1]).depth ≤ 40 := Nat.le_trans (pyLL_depth _) (by decide)
  refine ws_ret (ev_eqd (ev_op (opd_eqS (a := (pyLL [d1, d2, d1]).shown) (b := (pyLL [d1, d2, d1]).shown)) (ev_repr (d := .lst [encL d1, encL d2, encL d1]) ⟨_, .inl rfl⟩ (pyLL_of [d1, d2, d1]) (pyLL_show _) (pyLL_dict _) hdp hsh (ev_var 6 rfl (by simp)))
    (ev_repr (d := .lst [encL d1, encL d2, encL d1]) ⟨_, .inl rfl⟩ (pyLL_of [d1, d2, d1]) (pyLL_show _) (pyLL_dict _) hdp hsh (ev_op (opd_cat (xs := [encL d1, encL d2]) (ys := [encL d1]) ?b1) (ev_var 3 rfl (by simp)) (ev_lst (ds := [encL d1]) (eva_cons (ev_op (opd_ixL (at_zero (d := encL d1) (ds := [encL d2]))) (ev_var 3 rfl (by simp)) (ev_int _)) eva_nil) ?b2)))) (by simp))
  case b1 => exact Nat.le_trans (show (3 : Nat) ≤ 1000 by decide) (Nat.le_of_lt hs1000)
  case b2 => exact Nat.le_trans (show (1 : Nat) ≤ 1000 by decide) (Nat.le_of_lt hs1000)
end
end Dl
end
section
set_option Elab.async false
set_option maxRecDepth 100000
set_option maxHeartbeats 4000000
set_option linter.all false
namespace Dl
open PySem L2 ClX
/-! ### the law: one cell of the script -/
def turnP (M : Mdl) (q : Pot) : Nat → Pot
  | 0 => q
  | i + 1 => aloneP M (mixed (turnP M q i) M.labels 9).p M.labels.length
inductive R_right : Pot → List D → D → Pot → Prop
  | mk (p : Pot) : R_right p [] (.bl true) (turnP (wideM p) (wideW p).p 3)
theorem due_nil (M : Mdl) : M.due [] = [] := by
  unfold Mdl.due Mdl.sorted
  have : (M.labels.filter fun l => decide (l ∈ ([] : List Str))) = [] := List.filter_eq_nil_iff.mpr fun a _ => by simp
  rw [this]
  rfl
theorem due_single {M : Mdl} (h : M.Lam) : M.due M.sgl = [] := by
  unfold Mdl.due
  refine List.filter_eq_nil_iff.mpr fun l hl e => ?_
  have hs : l ∈ M.sgl := of_decide_eq_true (List.mem_filter.mp hl).2
  have hi : M.inner M.sgl l = [] := List.eq_nil_iff_forall_not_mem.mpr fun m hm => by
    obtain ⟨h1, h2, h3⟩ := inner_spec.mp hm
    rw [mem_single h h1, mem_single h hs] at h3
    exact h2 (List.mem_singleton.mp (h3 m List.mem_cons_self))
  have hc : M.covered M.sgl l = [] := by
    unfold Mdl.covered
    rw [hi]
    rfl
  unfold Mdl.full at e
  rw [hc] at e
  simp at e
theorem ev_andT {F : Fm} {ρ : List Slot} {μ μ1 μ2 : List Cell} {ta tb : TE} {c : Bool} (ha : Ev F ta ρ μ (.dat (.bl true)) μ1) (g : Ev F tb ρ μ1 (.dat (.bl c)) μ2) : Ev F (tAndV ta tb) ρ μ (.dat (.bl c)) μ2 := fun as σ H R Q k =>
  ha as σ H R _ fun v1 as1 H1 R1 p1 a1 x1 => by
    cases dat_bl (dat_slot x1)
    exact ⟨true, rfl, g as1 σ H1 R1 Q fun v2 as2 H2 R2 p2 a2 x2 => k v2 as2 H2 R2 (p1.trans p2) (a1.trans a2) x2⟩
section
variable {P : Program} {w : World} {K : PySem.W.Frag} {mg : Str → Option Value} {base : Heap}
abbrev s_right : Stmt := top 56
abbrev N_right : List Str := ["_law_pot_here", "_law_model", "_law_shelf", "_law_turn"]
theorem sc_right : FnScope N_right ["_law_pot_here"] (C8.fnScope s_right) := C8.fnScope_by (by decide +kernel)
theorem ok_right {C f : Addr} {fd : FuncData} (Fd : C8.Def K mg "_law_right" s_right f fd) (b : Binds K fd ["_law_pot_here"] []) (T : Bi mg) (c_wide : C8.Cal P w K mg base 3 "_law_wide_model" (spP R_wide) []) (c_book : C8.Cal P w K mg base 6 "_law_book" (spF (R_book C)) []) (c_fnames : C8.Cal P w K mg base 4 "filled_names" (spN (R_fnames C)) [])
    (g_two : CalG P w K mg base 7 "_law_two_right" (spF R_two)) (g_names : CalG P w K mg base 5 "_law_names_right" (spP (R_nright C))) (g_alone : CalG P w K mg base 6 "_law_alone_right" (spP (R_alone C))) : CalG P w K mg base 8 "_law_right" (spP R_right) := by
  refine calg0 Fd b sc_right (fun vs H Q h => len_P (fun p ds d p' h => by cases h; rfl) vs H Q _ h) fun cdv A outer s H vs Q hgd hr h => ?_
  refine ⟨_, (pss_cons (ps_set (i := 1) sc_right.nd rfl (by first | exact Or.inl rfl | exact Or.inr rfl) (C8.pe_c c_wide hr (by decide) rfl (pa_cons (pv 0) pa_nil)))
    (pss_cons (ps_set (i := 2) sc_right.nd rfl (by first | exact Or.inl rfl | exact Or.inr rfl) (C8.pe_c c_book hr (by decide) rfl (pa_cons (pv 1) pa_nil)))
    (pss_cons (ps_if (pt_not (pt_val (pe_g g_two hgd hr (by decide) rfl (pa_cons (pv 1) pa_nil)))) (pss_one (ps_ret pe_bl)) pss_nil)
    (pss_cons (ps_for PassesOwn.never rfl (pi_range1 (by rfl) T.b_range (pa_cons pe_int pa_nil)) (pg_name (i := 3) sc_right.nd rfl (by first | exact Or.inl rfl | exact Or.inr rfl))
      (pss_one (ps_if (PW.pt (pw_or (pt_not (pt_val (pe_g g_names hgd hr (by decide) rfl (pa_cons (pv 0) (pa_cons (pv 1) (pa_cons (pv 2) pa_nil)))))) (pw_or1 (pt_not (pt_val (pe_g g_alone hgd hr (by decide) rfl (pa_cons (pv 0) (pa_cons (pv 1) (pa_cons (pv 2) pa_nil))))))))) (pss_one (ps_ret pe_bl)) pss_nil)))
    (pss_one (ps_ret (pe_and (pe_cmpR (k_eqD rfl (lt_u64 (k := 7) hr.un)) (C8.pe_c c_fnames hr (by decide) rfl (pa_cons (pv 2) (pa_cons (pe_lst pa_nil) pa_nil))) (pe_lst pa_nil) (nomark _)) (pe_one (pe_cmpR (k_eqD rfl (lt_u64 (k := 7) hr.un)) (C8.pe_c c_fnames hr (by decide) rfl (pa_cons (pv 2) (pa_cons (pe_dget (lt_units (k := 7) hr.un) (pv 1) pe_str (fun _ _ => rfl)) pa_nil))) (pe_lst pa_nil) (nomark _)))))))))), run_P h ?_⟩
  rintro p _ _ _ ⟨⟩ F -
  have hM := wide_lam p
  have hs1000 : (1000 : Nat) < sizeLine := by decide
  refine ⟨_, .rt [.dead, .dead], ?_⟩
  refine ws_seq (ρ1 := [.cell 0, .dat (mdlD (wideM p)), .un, .un]) (μ1 := [potC (wideW p).p]) (ws_eqm (ws_set 1 (ev_callP (ds := []) (eva_cons (ev_var 0 rfl (by simp)) eva_nil) rfl (R_wide.mk p))) rfl) ?_
  generalize wideM p = M at hM ⊢
  generalize (wideW p).p = q
  have hln := labels_nodup hM
  have hmn : (M.ms.map (·.1)).Nodup := by rw [ms_fst]; exact hln
  have hsl : ∀ x ∈ M.sgl, x ∈ M.labels := fun x hx => List.mem_append_left _ hx
  refine ws_seq (ws_set 2 (ev_callF (ds := [mdlD M]) (R_book.mk M hM) (eva_cons (ev_var 1 rfl (by simp)) eva_nil))) ?_
  refine ws_seq (ws_if (b := false) (ev_teq (evt_not (evt_val (ev_callF (ds := [mdlD M]) (R_two.mk M hM) (eva_cons (ev_var 1 rfl (by simp)) eva_nil)))) rfl) (fun e => by cases e) (fun _ => ws_next)) ?_
  let S : Nat → List Slot × List Cell := fun i => ([.cell 0, .dat (mdlD M), .dat (bkD C M), .un], [potC (turnP M q i)])
  refine ws_seq (ρ1 := (S 3).1) (μ1 := (S 3).2) (ws_forN 3 [3] S (evi_range1 (j := 3) (eva_cons (ev_int _) eva_nil) (by decide) (by decide)) rfl (by rw [rngD_len]; rfl) ?turn) ?ret
  case turn =>
    intro i d hd
    obtain ⟨rfl, hi⟩ := rngD_get hd
    have es : S (i + 1) = ([.cell 0, .dat (mdlD M), .dat (bkD C M), .un], [potC (aloneP M (mixed (turnP M q i) M.labels 9).p M.labels.length)]) := rfl
    have eS : S i = ([.cell 0, .dat (mdlD M), .dat (bkD C M), .un], [potC (turnP M q i)]) := rfl
    rw [es, eS]
    dsimp only
    clear es eS
    clear_value S
    generalize turnP M q i = r
    refine ⟨_, evg_name 3, .inl (ws_weak (ρ1 := [.cell 0, .dat (mdlD M), .dat (bkD C M), .dat (.int (0 + (i : Nat)))]) ?_ ?_)⟩
    rotate_left
    · repeat first | exact .nil | refine .cons (.inl rfl) ?_ | refine .cons (.inr rfl) ?_
    exact ws_if (b := false) (ev_tmu (μ2 := [potC (aloneP M (mixed r M.labels 9).p M.labels.length)]) (ev_teq (evt_or (b := false) (c := false) (μ2 := [potC (aloneP M (mixed r M.labels 9).p M.labels.length)]) (ev_tmu (μ2 := [potC (mixed r M.labels 9).p]) (ev_teq (evt_not (evt_val (ev_callP (ds := [mdlD M, bkD C M]) (eva_cons (ev_var 0 rfl (by simp)) (eva_cons (ev_var 1 rfl (by simp)) (eva_cons (ev_var 2 rfl (by simp)) eva_nil))) rfl (R_nright.mk r M hM)))) rfl) rfl) fun _ => ev_tmu (ev_teq (evt_not (evt_val (ev_callP (ds := [mdlD M, bkD C M]) (eva_cons (ev_var 0 rfl (by simp)) (eva_cons (ev_var 1 rfl (by simp)) (eva_cons (ev_var 2 rfl (by simp)) eva_nil))) rfl (R_alone.mk (mixed r M.labels 9).p M hM)))) rfl) rfl) rfl) rfl) (fun e => by cases e) (fun _ => ws_next)
  case ret =>
    show Ws F _ [.cell 0, .dat (mdlD M), .dat (bkD C M), .un] [potC (turnP M q 3)] _
    have f1 := fill_due hM (xs := []) fun x hx => by cases hx
    have f2 := fill_due hM (xs := M.sgl) hsl
    rw [due_nil] at f1
    rw [due_single hM] at f2
    refine ws_ret (ev_andT (μ1 := [potC (turnP M q 3), .dead]) (ev_eqd (ev_op (opd_eqStrs (xs := []) (ys := [])) (ev_eqm (ev_free (k := 1) (ev_eqm (ev_callN (ds := [bkD C M, encL []]) (R_fnames.mk M.sgl M.ms [] (encL []) (.inl rfl) List.nodup_nil (fun x hx => by cases hx) (ms_len hM) hmn) (eva_cons (ev_var 2 rfl (by simp)) (eva_cons (ev_lst (ds := []) eva_nil (Nat.zero_le _)) eva_nil)) 1 rfl) (show _ = [potC (turnP M q 3), .lst (([] : List Str).map .str)] by rw [f1]; rfl)) rfl) rfl) (ev_lst (ds := []) eva_nil (Nat.zero_le _))) (by simp))
      (ev_eqd (ev_op (opd_eqStrs (xs := []) (ys := [])) (ev_eqm (ev_free (k := 2) (ev_eqm (ev_callN (ds := [bkD C M, encL M.sgl]) (R_fnames.mk M.sgl M.ms M.sgl (encL M.sgl) (.inl rfl) hM.nd (fun x hx => by rw [ms_fst]; exact hsl x hx) (ms_len hM) hmn) (eva_cons (ev_var 2 rfl (by simp)) (eva_cons (ev_dget (look_sgl M) (ev_var 1 rfl (by simp)) (ev_str _)) eva_nil)) 2 rfl) (show _ = [potC (turnP M q 3), .dead, .lst (([] : List Str).map .str)] by rw [f2]; rfl)) rfl) rfl) (ev_lst (ds := []) eva_nil (Nat.zero_le _))) (by simp)))
end
end Dl
end
section
set_option Elab.async false
set_option maxRecDepth 100000
set_option maxHeartbeats 4000000
set_option linter.all false
namespace Dl
open PySem L2 ClX
section
variable {F : Fm} {ρ ρ1 ρ2 : List Slot} {μ μ1 μ2 : List Cell} {r r1 r2 : Slot} {rs : List Slot} {ta tb tc te tl : TE} {t : TA} {o : Out}
/-- a list comprehension: m: the cells ahead of each turn, ys: what it has made -/
theorem lc_core_atB {wi : TI} {g : TG} {tt : TT} {te : TE} {vs : List Nat} {items : List D} {as : List Addr} {σ : St} {H : Hp} (hi : EvIat F wi ρ μ items μ1 as σ H) (hw : ∀ i ∈ vs, ρ[i]? = some .un) (hsz : items.length ≤ 1000000) (m : Nat → List Cell) (h0 : m 0 = μ1) (ys : Nat → List D) (hy0 : ys 0 = [])
    (turn : ∀ i d, items[i]? = some d → ∀ F' : Fm, F'.B = F.B → F'.ps = F.ps → ∃ ρ', EvG F' g vs ρ (m i) d ρ' ∧ ∃ b m', EvT F' tt ρ' (m i) b m' ∧
      if b = true then ∃ y, Ev F' te ρ' m' (.dat y) (m (i + 1)) ∧ ys (i + 1) = ys i ++ [y] else m (i + 1) = m' ∧ ys (i + 1) = ys i) :
    ∀ R0 : Rel F ρ μ as σ H, ∀ Q : VK, (∀ (L : Addr) (acc : List V) (as' : List Addr) (H' : Hp), H L = none → L ∉ F.z → F.B L = none → H' L = some (.lst acc) → Rel { F with z := L :: F.z } ρ (m items.length) as' σ H' → as <+: as' →
      Adv (hid μ as) (hid (m items.length) as') H H' → Dats (Hide (hid (m items.length) as' ++ L :: F.z) H') acc (ys items.length) → Q (.ref L) H') → tLc wi g tt te vs σ H Q := fun R0 Q k =>
  hi R0 _ fun J as1 H1 R1 p1 a1 ⟨G, Y, w, st, yd⟩ L nL => by
    obtain ⟨RL, gL, BL, Lz⟩ := R1.under (H' := upd H1 L (.lst [])) nL (same_upd nL) (by rw [upd_same]; simp)
    have aL : Adv (hid μ1 as1) (hid μ1 as1) H1 (upd H1 L (.lst [])) := .same (same_upd nL)
    have see : ∀ i as' H', Adv (hid μ1 as1) (hid (m i) as') H1 H' → Same (Hide (hid μ1 as1 ++ F.z) H1) (Hide (hid (m i) as' ++ L :: F.z) H') := fun i as' H' a b o e => by
      have e' := a.ge (z := F.z) b o e
      obtain ⟨n, e'⟩ := hide_some e'
      rw [hide_out]
      · exact e'
      · intro q
        rcases List.mem_append.mp q with q | q
        · exact n (List.mem_append_left _ q)
        · rcases List.mem_cons.mp q with rfl | q
          · rw [hide_get e] at nL; cases nL
          · exact n (List.mem_append_right _ q)
    refine lc_it w (fun i H' => ∃ as' acc, H' L = some (.lst acc) ∧ Rel { F with z := L :: F.z } ρ (m i) as' (wipe σ vs) H' ∧ as1 <+: as' ∧ Adv (hid μ1 as1) (hid (m i) as') H1 H' ∧
      Dats (Hide (hid (m i) as' ++ L :: F.z) H') acc (ys i) ∧ (ys i).length ≤ i) ?_ (fun i H' _ ⟨as', _, _, _, _, a, _⟩ => st _ H' (see i as' H' a)) ?_ ?_
    · refine ⟨as1, [], upd_same, ?_, List.prefix_refl _, ?_, ?_, ?_⟩
      · rw [h0]; exact (Rel.wipe hw).mpr RL
      · rw [h0]; exact aL
      · rw [hy0]; exact .nil
      · rw [hy0]; exact Nat.le_refl _
    · rintro i x H' H'' hlt ⟨as', acc, eL, RR, pp, aa, da, hlen⟩ y
      obtain ⟨d, hd⟩ : ∃ d, items[i]? = some d := ⟨_, List.getElem?_eq_getElem hlt⟩
      obtain ⟨ρ', hg, b, m', ht, hb⟩ := turn i d hd { F with z := L :: F.z } rfl rfl
      obtain ⟨sm, dx⟩ := yd i d x _ H' H'' hd (see i as' H' aa) RR.live y
      have R2 := RR.same sm
      refine hg as' (wipe σ vs) H'' x R2 dx _ fun σ2 R3 hwp => ⟨hwp.trans (wipe_wipe σ vs), ?_⟩
      refine ht as' σ2 H'' R3 _ fun as2 H3 R4 p2 a2 => ?_
      have aX : Adv (hid (m i) as') (hid m' as2) H' H3 := (Adv.same sm).trans a2
      have keepL : ∀ {h' : List Addr} {Hn : Hp}, Adv (hid (m i) as') h' H' Hn → Hn L = some (.lst acc) := fun {h' Hn} a => a.keep L _ (fun q => RR.dj L (hid_sub _ _ _ q) List.mem_cons_self) eL
      -- what the slots said stays said
      have back : ∀ {mm : List Cell} {as3 : List Addr} {Hn : Hp} {ρ3 : List Slot} {σ3 : St}, Rel { F with z := L :: F.z } ρ3 mm as3 σ3 Hn → as' <+: as3 → Adv (hid (m i) as') (hid mm as3) H' Hn → Rel { F with z := L :: F.z } ρ mm as3 (wipe σ vs) Hn := fun R p a =>
        { R with slots := pd_imp RR.slots fun s o q => SlotOk.ext p (SlotOk.adv a q) }
      cases b with
      | true =>
        rw [if_pos rfl] at hb
        rw [if_pos rfl]
        obtain ⟨yv, he, hys⟩ := hb
        refine he as2 σ2 H3 R4 _ fun v as3 H4 R5 p3 a3 sv => ?_
        have aY : Adv (hid (m i) as') (hid (m (i + 1)) as3) H' H4 := aX.trans a3
        have e4 := keepL aY
        refine ⟨acc, e4, ?_, ?_⟩
        · have q1 := da.len
          have : sizeLine > 1000000 := by decide
          omega
        · have kk : ∀ b u, b ≠ L → H4 b = some u → (upd H4 L (.lst (acc ++ [v]))) b = some u := fun b u n e => by rw [upd_ne n]; exact e
          obtain ⟨R6, g6⟩ := (back R5 (p2.trans p3) aY).poke0 (p := L) List.mem_cons_self BL kk (by rw [upd_same]; simp)
          refine ⟨as3, acc ++ [v], upd_same, R6, pp.trans (p2.trans p3), ?_, ?_, ?_⟩
          · have aZ := aa.trans aY
            exact ⟨fun c u n e => kk c u (fun q => by subst q; rw [e] at nL; cases nL) (aZ.keep c u n e), aZ.new⟩
          · rw [hys]
            exact Dats.snoc ((dat_slot sv).mono (.of g6)) ((aY.dats da).mono (.of g6))
          · rw [hys, List.length_append, List.length_singleton]
            omega
      | false =>
        rw [if_neg (by decide)] at hb
        rw [if_neg (by decide)]
        obtain ⟨hm, hys⟩ := hb
        refine ⟨as2, acc, keepL aX, ?_, pp.trans p2, ?_, ?_, ?_⟩
        · rw [hm]; exact back R4 p2 aX
        · rw [hm]; exact aa.trans aX
        · rw [hm, hys]; exact aX.dats da
        · rw [hys]; omega
    · rintro H' ⟨as', acc, eL, RR, pp, aa, da, hlen⟩
      have nL0 : H L = none := by
        cases h : H L with
        | none => rfl
        | some u =>
          exact absurd (a1.keep L u (fun q => R1.there L (p1.subset (hid_sub _ _ _ q)) nL) h) (by rw [nL]; simp)
      exact k L acc as' H' nL0 Lz BL eL ((Rel.wipe hw).mp RR) (p1.trans pp) (a1.trans aa) da
theorem ev_lcNB {wi : TI} {g : TG} {tt : TT} {te : TE} {vs : List Nat} {items : List D} (n : Nat) (hi : EvI F wi ρ μ items μ1) (hn : items.length = n) (hw : ∀ i ∈ vs, ρ[i]? = some .un) (hsz : n ≤ 1000000) (m : Nat → List Cell) (h0 : m 0 = μ1) (ys : Nat → List D) (hy0 : ys 0 = [])
    (turn : ∀ i d, items[i]? = some d → ∀ F' : Fm, F'.B = F.B → F'.ps = F.ps → ∃ ρ', EvG F' g vs ρ (m i) d ρ' ∧ ∃ b m', EvT F' tt ρ' (m i) b m' ∧
      if b = true then ∃ y, Ev F' te ρ' m' (.dat y) (m (i + 1)) ∧ ys (i + 1) = ys i ++ [y] else m (i + 1) = m' ∧ ys (i + 1) = ys i) :
    Ev F (tLc wi g tt te vs) ρ μ (.dat (.lst (ys n))) (m n) := fun as σ H R0 Q k => by
  subst hn
  refine lc_core_atB (hi as σ H) hw hsz m h0 ys hy0 turn R0 Q fun L acc as' H' _ Lz _ eL RR pp aa da => ?_
  obtain ⟨R6, g6, nL6⟩ := RR.over Lz
  refine k _ as' H' R6 pp aa ⟨_, rfl, .lst ?_ (da.mono (.of g6))⟩
  rw [hide_out nL6]
  exact eL
end
/-! ### the law -/
def endP (p : Pot) : Pot := turnP (wideM p) (wideW p).p 3
section
variable {P : Program} {w : World} {K : PySem.W.Frag} {mg : Str → Option Value} {base : Heap}
abbrev s_law : Stmt := top 57
abbrev N_law : List Str := ["_law_script", "_law_k"]
theorem sc_law : FnScope N_law ["_law_script"] (C8.fnScope s_law) := C8.fnScope_by (by decide +kernel)
theorem ok_law {f : Addr} {fd : FuncData} (Fd : C8.Fun K "law" "law" s_law f fd) (T : Bi mg) (c_pot : C8.Cal P w K mg base 1 "_law_pot" (spPot K potI) []) (g_right : CalG P w K mg base 8 "_law_right" (spP R_right)) : FnG P w K mg base 9 f fd ["_law_script"] (spLawG K) := by
  refine fng_of Fd sc_law (fun vs H Q h => by obtain ⟨a, ns, rfl, _⟩ := h; rfl) fun cdv A outer s H vs Q hgd hr h => ?_
  refine ⟨_, (pss_one (ps_ret (pe_callB (k_all rfl rfl) (by rfl) T.b_all (by decide +kernel) (pa_cons (pe_lc (own := [("_law_k", 1)]) (g := gName 1) (tt := tYes) rfl sc_law.nd (pi_range1 (by rfl) T.b_range (pa_cons (pe_callB (call_max2 rfl) (by rfl) T.b_max (by decide +kernel) (pa_cons pe_int (pa_cons (pe_callB (call_min2 rfl) (by rfl) T.b_min (by decide +kernel) (pa_cons pe_int (pa_cons (pe_callB (k_len rfl) (by rfl) T.b_len PySem.boot_len (pa_cons (pv 0) pa_nil)) pa_nil))) pa_nil))) pa_nil)) (blkOk_by (N := N_law) (sc := C8.fnScope s_law) (by decide +kernel)) (fun _ _ _ _ _ => (pg_name (i := 1) sc_law.nd rfl (by first | exact Or.inl rfl | exact Or.inr rfl))) (fun _ _ _ _ _ => pts_nil)
    (fun _ _ _ _ _ => pe_g g_right hgd hr (by decide) rfl (pa_cons (C8.pe_c c_pot hr (by decide) rfl (pa_cons (pv 0) (pa_cons (pv 1) pa_nil))) pa_nil))) pa_nil)))), ?_⟩
  obtain ⟨a, ns, rfl, hs, h63, fin⟩ := h
  obtain ⟨pp, hpp⟩ : ∃ pp : Nat → Pot, ∀ k, potI ns k = ((((pp k).a : Nat) : Int), (((pp k).b : Nat) : Int)) := ⟨fun k => Classical.choose (potI_pot ns k), fun k => Classical.choose_spec (potI_pot ns k)⟩
  let n : Nat := max 1 (min 8 ns.length)
  have hn8 : n ≤ 8 := by show max 1 (min 8 ns.length) ≤ 8; omega
  let m : Nat → List Cell := fun i => (List.range i).map fun j => potC (endP (pp j))
  have hml : ∀ i, (m i).length = i := fun i => by show ((List.range i).map _).length = i; rw [List.length_map, List.length_range]
  refine run_V (r := .dat (.bl true)) (μ := m n) (fun F hz hB hp => ?_) ?_
  · rw [← hB] at hs
    refine ws_ret (ev_eqd (ev_cb (ds := [.lst ((List.replicate n true).map .bl)]) cd_all (eva_cons (ev_lcNB n (evi_range1 (j := (n : Nat)) (eva_cons (ev_eqd (ev_cb (ds := [.int 1, .int (if ((ns.length : Nat) : Int) < 8 then ((ns.length : Nat) : Int) else 8)]) cd_max (eva_cons (ev_int _) (eva_cons (ev_cb (ds := [.int 8, .int ((ns.length : Nat) : Int)]) cd_min (eva_cons (ev_int _) (eva_cons (ev_eqd (ev_lenV hp hs (eva_cons (ev_var 0 rfl (by simp)) eva_nil)) ?a0) eva_nil))) eva_nil))) ?a1) eva_nil) (by omega) (by omega)) ?a2 ?a3 (by omega) m rfl (fun i => (List.replicate i true).map .bl) rfl ?a4) eva_nil)) ?a5)
    case a0 => rw [List.length_map]
    case a1 =>
      congr 1
      show _ = ((max 1 (min 8 ns.length) : Nat) : Int)
      split <;> split <;> omega
    case a2 =>
      rw [rngD_len]
      simp
    case a3 =>
      intro i hi
      cases List.mem_singleton.mp hi
      rfl
    case a4 =>
      intro i d hd F' eB eps
      obtain ⟨rfl, hi⟩ := rngD_get hd
      have hi : i < n := by simpa using hi
      refine ⟨_, evg_name 1, true, _, evt_yes, ?_⟩
      rw [if_pos rfl]
      refine ⟨.bl true, ev_eqm (ev_callP (k := i) (p := pp i) (p' := endP (pp i)) (μ1 := m i ++ [potC (pp i)]) (ds := []) (eva_cons (ev_callPot (by rw [eps]; exact hp) (by rw [eB]; exact hs) (show i ≤ 63 by omega) (eva_cons (ev_var 0 rfl (by simp)) (eva_cons (ev_eqd (ev_var 1 rfl (by simp)) (by rw [Int.zero_add])) eva_nil)) (hpp i) i (hml i).symm) eva_nil) ?b1 (R_right.mk (pp i))) ?b2, ?b3⟩
      case b1 =>
        rw [List.getElem?_append_right (by rw [hml]; exact Nat.le_refl _), hml, Nat.sub_self]
        rfl
      case b2 =>
        rw [List.set_append_right _ _ (by rw [hml]; exact Nat.le_refl _), hml, Nat.sub_self]
        show m i ++ [potC (endP (pp i))] = (List.range (i + 1)).map fun j => potC (endP (pp j))
        rw [List.range_succ, List.map_append]
        rfl
      case b3 =>
        rw [List.replicate_succ', List.map_append]
        rfl
    case a5 =>
      congr 1
      rw [List.all_eq_true]
      intro b hb
      exact (List.mem_replicate.mp hb).2
  · intro v as' H' sv _ _ _
    cases dat_bl (dat_slot sv)
    exact fin H'
end
end Dl
end
section
set_option Elab.async false
set_option maxRecDepth 100000
set_option maxHeartbeats 4000000
set_option linter.all false
namespace Dl
open PySem L2 ClX
theorem def_mk {K : PySem.W.Frag} {mg : Str → Option Value} {x : Str} {st : Stmt} {f : Addr} {oc : Value} {od an : Option Addr} {osl : Array (Option Value)} {kV doc pm cdv ct : Value} (hm : mg x = some (.ref f)) (l : K.lookup f = some ⟨oc, od, .func (PySem.W.fnOf x x (C8.fnArgs st) (C8.fnBody st) (C8.fnScope st) .none kV doc pm an cdv ct), osl⟩)
    (c : PySem.W.codeIn K cdv x = true) (k : PySem.W.keepIn K (.ref f) = true) : C8.Def K mg x st f (PySem.W.fnOf x x (C8.fnArgs st) (C8.fnBody st) (C8.fnScope st) .none kV doc pm an cdv ct) := ⟨⟨oc, od, .none, kV, doc, pm, an, cdv, ct, osl, rfl, l, c⟩, hm, k⟩
theorem binds_init {K : PySem.W.Frag} {TI : Addr} {oT : Obj} {u : Value} {n : Nat} {kV doc pm cdv ct : Value} {an : Option Addr} (ho : K.lookup TI = some oT) (hs : oT.data = .seq #[u] n) : Binds K (PySem.W.fnOf "__init__" "Book.__init__" (C8.fnArgs s_init) (C8.fnBody s_init) (C8.fnScope s_init) (.ref TI) kV doc pm an cdv ct) ["self", "counters", "groups"] [] := fun s us X hl => by
  rw [List.append_nil] at hl ⊢
  match us, hl with
  | [a, b, c], _ => exact PySem.W.binds_K X rfl ho hs rfl rfl
theorem all_mk {P : Program} {w : World} {K : PySem.W.Frag} {h : Heap} {mg : Str → Option Value} {fa C TI : Addr} {oT : Obj} {uT : Value} {nT : Nat} {tL tD tN tM : Tok} {mc : Value} (X : K.In h) (G : h.Ns mainGlobals mg) (hfa : mg "law" = some (.ref fa))
    {f_isn f_isl f_known f_places f_outer f_with f_cc f_mog f_isg f_cap f_fnames f_poss f_asked f_parts f_fparts f_filled f_letter f_agrees f_pot f_draw f_named f_wide f_labels f_members f_book f_mixed f_sorted f_inner f_full f_barred f_nright f_alone f_turned f_two f_right f_law f_init f_m_names f_m_around f_m_plc f_m_has : Addr}
    {od_isn an_isn od_isl an_isl od_known an_known od_places an_places od_outer an_outer od_with an_with od_cc an_cc od_mog an_mog od_isg an_isg od_cap an_cap od_fnames an_fnames od_poss an_poss od_asked an_asked od_parts an_parts od_fparts an_fparts od_filled an_filled od_letter an_letter od_agrees an_agrees od_pot an_pot od_draw an_draw od_named an_named od_wide an_wide od_labels an_labels od_members an_members od_book an_book od_mixed an_mixed od_sorted an_sorted od_inner an_inner od_full an_full od_barred an_barred od_nright an_nright od_alone an_alone od_turned an_turned od_two an_two od_right an_right od_law an_law od_init an_init od_m_names an_m_names od_m_around an_m_around od_m_plc an_m_plc od_m_has an_m_has : Option Addr}
    {sl_isn sl_isl sl_known sl_places sl_outer sl_with sl_cc sl_mog sl_isg sl_cap sl_fnames sl_poss sl_asked sl_parts sl_fparts sl_filled sl_letter sl_agrees sl_pot sl_draw sl_named sl_wide sl_labels sl_members sl_book sl_mixed sl_sorted sl_inner sl_full sl_barred sl_nright sl_alone sl_turned sl_two sl_right sl_law sl_init sl_m_names sl_m_around sl_m_plc sl_m_has : Array (Option Value)}
    {oc_isn kV_isn dc_isn pm_isn cd_isn ct_isn oc_isl kV_isl dc_isl pm_isl cd_isl ct_isl oc_known kV_known dc_known pm_known cd_known ct_known oc_places kV_places dc_places pm_places cd_places ct_places oc_outer kV_outer dc_outer pm_outer cd_outer ct_outer oc_with kV_with dc_with pm_with cd_with ct_with oc_cc kV_cc dc_cc pm_cc cd_cc ct_cc oc_mog kV_mog dc_mog pm_mog cd_mog ct_mog oc_isg kV_isg dc_isg pm_isg cd_isg ct_isg oc_cap kV_cap dc_cap pm_cap cd_cap ct_cap oc_fnames kV_fnames dc_fnames pm_fnames cd_fnames ct_fnames oc_poss kV_poss dc_poss pm_poss cd_poss ct_poss oc_asked kV_asked dc_asked pm_asked cd_asked ct_asked oc_parts kV_parts dc_parts pm_parts cd_parts ct_parts oc_fparts kV_fparts dc_fparts pm_fparts cd_fparts ct_fparts oc_filled kV_filled dc_filled pm_filled cd_filled ct_filled oc_letter kV_letter dc_letter pm_letter cd_letter ct_letter oc_agrees kV_agrees dc_agrees pm_agrees cd_agrees ct_agrees oc_pot kV_pot dc_pot pm_pot cd_pot ct_pot oc_draw kV_draw dc_draw pm_draw cd_draw ct_draw oc_named kV_named dc_named pm_named cd_named ct_named oc_wide kV_wide dc_wide pm_wide cd_wide ct_wide oc_labels kV_labels dc_labels pm_labels cd_labels ct_labels oc_members kV_members dc_members pm_members cd_members ct_members oc_book kV_book dc_book pm_book cd_book ct_book oc_mixed kV_mixed dc_mixed pm_mixed cd_mixed ct_mixed oc_sorted kV_sorted dc_sorted pm_sorted cd_sorted ct_sorted oc_inner kV_inner dc_inner pm_inner cd_inner ct_inner oc_full kV_full dc_full pm_full cd_full ct_full oc_barred kV_barred dc_barred pm_barred cd_barred ct_barred oc_nright kV_nright dc_nright pm_nright cd_nright ct_nright oc_alone kV_alone dc_alone pm_alone cd_alone ct_alone oc_turned kV_turned dc_turned pm_turned cd_turned ct_turned oc_two kV_two dc_two pm_two cd_two ct_two oc_right kV_right dc_right pm_right cd_right ct_right oc_law kV_law dc_law pm_law cd_law ct_law oc_init kV_init dc_init pm_init cd_init ct_init oc_m_names kV_m_names dc_m_names pm_m_names cd_m_names ct_m_names oc_m_around kV_m_around dc_m_around pm_m_around cd_m_around ct_m_around oc_m_plc kV_m_plc dc_m_plc pm_m_plc cd_m_plc ct_m_plc oc_m_has kV_m_has dc_m_has pm_m_has cd_m_has ct_m_has : Value}
    (a_isn : PySem.W.nsIn K mainGlobals "is_name" = some (some (.ref f_isn))) (l_isn : K.lookup f_isn = some ⟨oc_isn, od_isn, .func (PySem.W.fnOf "is_name" "is_name" (C8.fnArgs s_is_name) (C8.fnBody s_is_name) (C8.fnScope s_is_name) .none kV_isn dc_isn pm_isn an_isn cd_isn ct_isn), sl_isn⟩) (c_isn : PySem.W.codeIn K cd_isn "is_name" = true) (k_isn : PySem.W.keepIn K (.ref f_isn) = true)
    (a_isl : PySem.W.nsIn K mainGlobals "is_list" = some (some (.ref f_isl))) (l_isl : K.lookup f_isl = some ⟨oc_isl, od_isl, .func (PySem.W.fnOf "is_list" "is_list" (C8.fnArgs s_is_list) (C8.fnBody s_is_list) (C8.fnScope s_is_list) .none kV_isl dc_isl pm_isl an_isl cd_isl ct_isl), sl_isl⟩) (c_isl : PySem.W.codeIn K cd_isl "is_list" = true) (k_isl : PySem.W.keepIn K (.ref f_isl) = true)
    (a_known : PySem.W.nsIn K mainGlobals "check_known" = some (some (.ref f_known))) (l_known : K.lookup f_known = some ⟨oc_known, od_known, .func (PySem.W.fnOf "check_known" "check_known" (C8.fnArgs s_known) (C8.fnBody s_known) (C8.fnScope s_known) .none kV_known dc_known pm_known an_known cd_known ct_known), sl_known⟩) (c_known : PySem.W.codeIn K cd_known "check_known" = true) (k_known : PySem.W.keepIn K (.ref f_known) = true)
    (a_places : PySem.W.nsIn K mainGlobals "places_among" = some (some (.ref f_places))) (l_places : K.lookup f_places = some ⟨oc_places, od_places, .func (PySem.W.fnOf "places_among" "places_among" (C8.fnArgs s_places) (C8.fnBody s_places) (C8.fnScope s_places) .none kV_places dc_places pm_places an_places cd_places ct_places), sl_places⟩) (c_places : PySem.W.codeIn K cd_places "places_among" = true) (k_places : PySem.W.keepIn K (.ref f_places) = true)
    (a_outer : PySem.W.nsIn K mainGlobals "outer_groups" = some (some (.ref f_outer))) (l_outer : K.lookup f_outer = some ⟨oc_outer, od_outer, .func (PySem.W.fnOf "outer_groups" "outer_groups" (C8.fnArgs s_outer) (C8.fnBody s_outer) (C8.fnScope s_outer) .none kV_outer dc_outer pm_outer an_outer cd_outer ct_outer), sl_outer⟩) (c_outer : PySem.W.codeIn K cd_outer "outer_groups" = true) (k_outer : PySem.W.keepIn K (.ref f_outer) = true)
    (a_with : PySem.W.nsIn K mainGlobals "groups_with" = some (some (.ref f_with))) (l_with : K.lookup f_with = some ⟨oc_with, od_with, .func (PySem.W.fnOf "groups_with" "groups_with" (C8.fnArgs s_with) (C8.fnBody s_with) (C8.fnScope s_with) .none kV_with dc_with pm_with an_with cd_with ct_with), sl_with⟩) (c_with : PySem.W.codeIn K cd_with "groups_with" = true) (k_with : PySem.W.keepIn K (.ref f_with) = true)
    (a_cc : PySem.W.nsIn K mainGlobals "check_counters" = some (some (.ref f_cc))) (l_cc : K.lookup f_cc = some ⟨oc_cc, od_cc, .func (PySem.W.fnOf "check_counters" "check_counters" (C8.fnArgs s_check_counters) (C8.fnBody s_check_counters) (C8.fnScope s_check_counters) .none kV_cc dc_cc pm_cc an_cc cd_cc ct_cc), sl_cc⟩) (c_cc : PySem.W.codeIn K cd_cc "check_counters" = true) (k_cc : PySem.W.keepIn K (.ref f_cc) = true)
    (a_mog : PySem.W.nsIn K mainGlobals "members_of_groups" = some (some (.ref f_mog))) (l_mog : K.lookup f_mog = some ⟨oc_mog, od_mog, .func (PySem.W.fnOf "members_of_groups" "members_of_groups" (C8.fnArgs s_mog) (C8.fnBody s_mog) (C8.fnScope s_mog) .none kV_mog dc_mog pm_mog an_mog cd_mog ct_mog), sl_mog⟩) (c_mog : PySem.W.codeIn K cd_mog "members_of_groups" = true) (k_mog : PySem.W.keepIn K (.ref f_mog) = true)
    (a_isg : PySem.W.nsIn K mainGlobals "is_group" = some (some (.ref f_isg))) (l_isg : K.lookup f_isg = some ⟨oc_isg, od_isg, .func (PySem.W.fnOf "is_group" "is_group" (C8.fnArgs s_is_group) (C8.fnBody s_is_group) (C8.fnScope s_is_group) .none kV_isg dc_isg pm_isg an_isg cd_isg ct_isg), sl_isg⟩) (c_isg : PySem.W.codeIn K cd_isg "is_group" = true) (k_isg : PySem.W.keepIn K (.ref f_isg) = true)
    (a_cap : PySem.W.nsIn K mainGlobals "check_apart" = some (some (.ref f_cap))) (l_cap : K.lookup f_cap = some ⟨oc_cap, od_cap, .func (PySem.W.fnOf "check_apart" "check_apart" (C8.fnArgs s_check_apart) (C8.fnBody s_check_apart) (C8.fnScope s_check_apart) .none kV_cap dc_cap pm_cap an_cap cd_cap ct_cap), sl_cap⟩) (c_cap : PySem.W.codeIn K cd_cap "check_apart" = true) (k_cap : PySem.W.keepIn K (.ref f_cap) = true)
    (a_fnames : PySem.W.nsIn K mainGlobals "filled_names" = some (some (.ref f_fnames))) (l_fnames : K.lookup f_fnames = some ⟨oc_fnames, od_fnames, .func (PySem.W.fnOf "filled_names" "filled_names" (C8.fnArgs s_fnames) (C8.fnBody s_fnames) (C8.fnScope s_fnames) .none kV_fnames dc_fnames pm_fnames an_fnames cd_fnames ct_fnames), sl_fnames⟩) (c_fnames : PySem.W.codeIn K cd_fnames "filled_names" = true) (k_fnames : PySem.W.keepIn K (.ref f_fnames) = true)
    (a_poss : PySem.W.nsIn K mainGlobals "is_possible" = some (some (.ref f_poss))) (l_poss : K.lookup f_poss = some ⟨oc_poss, od_poss, .func (PySem.W.fnOf "is_possible" "is_possible" (C8.fnArgs s_poss) (C8.fnBody s_poss) (C8.fnScope s_poss) .none kV_poss dc_poss pm_poss an_poss cd_poss ct_poss), sl_poss⟩) (c_poss : PySem.W.codeIn K cd_poss "is_possible" = true) (k_poss : PySem.W.keepIn K (.ref f_poss) = true)
    (a_asked : PySem.W.nsIn K mainGlobals "asked_names" = some (some (.ref f_asked))) (l_asked : K.lookup f_asked = some ⟨oc_asked, od_asked, .func (PySem.W.fnOf "asked_names" "asked_names" (C8.fnArgs s_asked) (C8.fnBody s_asked) (C8.fnScope s_asked) .none kV_asked dc_asked pm_asked an_asked cd_asked ct_asked), sl_asked⟩) (c_asked : PySem.W.codeIn K cd_asked "asked_names" = true) (k_asked : PySem.W.keepIn K (.ref f_asked) = true)
    (a_parts : PySem.W.nsIn K mainGlobals "parts_of_asked" = some (some (.ref f_parts))) (l_parts : K.lookup f_parts = some ⟨oc_parts, od_parts, .func (PySem.W.fnOf "parts_of_asked" "parts_of_asked" (C8.fnArgs s_parts) (C8.fnBody s_parts) (C8.fnScope s_parts) .none kV_parts dc_parts pm_parts an_parts cd_parts ct_parts), sl_parts⟩) (c_parts : PySem.W.codeIn K cd_parts "parts_of_asked" = true) (k_parts : PySem.W.keepIn K (.ref f_parts) = true)
    (a_fparts : PySem.W.nsIn K mainGlobals "filled_parts" = some (some (.ref f_fparts))) (l_fparts : K.lookup f_fparts = some ⟨oc_fparts, od_fparts, .func (PySem.W.fnOf "filled_parts" "filled_parts" (C8.fnArgs s_fparts) (C8.fnBody s_fparts) (C8.fnScope s_fparts) .none kV_fparts dc_fparts pm_fparts an_fparts cd_fparts ct_fparts), sl_fparts⟩) (c_fparts : PySem.W.codeIn K cd_fparts "filled_parts" = true) (k_fparts : PySem.W.keepIn K (.ref f_fparts) = true)
    (a_filled : PySem.W.nsIn K mainGlobals "is_filled" = some (some (.ref f_filled))) (l_filled : K.lookup f_filled = some ⟨oc_filled, od_filled, .func (PySem.W.fnOf "is_filled" "is_filled" (C8.fnArgs s_filled) (C8.fnBody s_filled) (C8.fnScope s_filled) .none kV_filled dc_filled pm_filled an_filled cd_filled ct_filled), sl_filled⟩) (c_filled : PySem.W.codeIn K cd_filled "is_filled" = true) (k_filled : PySem.W.keepIn K (.ref f_filled) = true)
    (a_letter : PySem.W.nsIn K mainGlobals "is_letter_of" = some (some (.ref f_letter))) (l_letter : K.lookup f_letter = some ⟨oc_letter, od_letter, .func (PySem.W.fnOf "is_letter_of" "is_letter_of" (C8.fnArgs s_letter) (C8.fnBody s_letter) (C8.fnScope s_letter) .none kV_letter dc_letter pm_letter an_letter cd_letter ct_letter), sl_letter⟩) (c_letter : PySem.W.codeIn K cd_letter "is_letter_of" = true) (k_letter : PySem.W.keepIn K (.ref f_letter) = true)
    (a_agrees : PySem.W.nsIn K mainGlobals "agrees" = some (some (.ref f_agrees))) (l_agrees : K.lookup f_agrees = some ⟨oc_agrees, od_agrees, .func (PySem.W.fnOf "agrees" "agrees" (C8.fnArgs s_agrees) (C8.fnBody s_agrees) (C8.fnScope s_agrees) .none kV_agrees dc_agrees pm_agrees an_agrees cd_agrees ct_agrees), sl_agrees⟩) (c_agrees : PySem.W.codeIn K cd_agrees "agrees" = true) (k_agrees : PySem.W.keepIn K (.ref f_agrees) = true)
    (a_pot : PySem.W.nsIn K mainGlobals "_law_pot" = some (some (.ref f_pot))) (l_pot : K.lookup f_pot = some ⟨oc_pot, od_pot, .func (PySem.W.fnOf "_law_pot" "_law_pot" (C8.fnArgs s_law_pot) (C8.fnBody s_law_pot) (C8.fnScope s_law_pot) .none kV_pot dc_pot pm_pot an_pot cd_pot ct_pot), sl_pot⟩) (c_pot : PySem.W.codeIn K cd_pot "_law_pot" = true) (k_pot : PySem.W.keepIn K (.ref f_pot) = true)
    (a_draw : PySem.W.nsIn K mainGlobals "_law_draw" = some (some (.ref f_draw))) (l_draw : K.lookup f_draw = some ⟨oc_draw, od_draw, .func (PySem.W.fnOf "_law_draw" "_law_draw" (C8.fnArgs s_law_draw) (C8.fnBody s_law_draw) (C8.fnScope s_law_draw) .none kV_draw dc_draw pm_draw an_draw cd_draw ct_draw), sl_draw⟩) (c_draw : PySem.W.codeIn K cd_draw "_law_draw" = true) (k_draw : PySem.W.keepIn K (.ref f_draw) = true)
    (a_named : PySem.W.nsIn K mainGlobals "_law_named" = some (some (.ref f_named))) (l_named : K.lookup f_named = some ⟨oc_named, od_named, .func (PySem.W.fnOf "_law_named" "_law_named" (C8.fnArgs s_law_named) (C8.fnBody s_law_named) (C8.fnScope s_law_named) .none kV_named dc_named pm_named an_named cd_named ct_named), sl_named⟩) (c_named : PySem.W.codeIn K cd_named "_law_named" = true) (k_named : PySem.W.keepIn K (.ref f_named) = true)
    (a_wide : PySem.W.nsIn K mainGlobals "_law_wide_model" = some (some (.ref f_wide))) (l_wide : K.lookup f_wide = some ⟨oc_wide, od_wide, .func (PySem.W.fnOf "_law_wide_model" "_law_wide_model" (C8.fnArgs s_law_wide_model) (C8.fnBody s_law_wide_model) (C8.fnScope s_law_wide_model) .none kV_wide dc_wide pm_wide an_wide cd_wide ct_wide), sl_wide⟩) (c_wide : PySem.W.codeIn K cd_wide "_law_wide_model" = true) (k_wide : PySem.W.keepIn K (.ref f_wide) = true)
    (a_labels : PySem.W.nsIn K mainGlobals "_law_labels" = some (some (.ref f_labels))) (l_labels : K.lookup f_labels = some ⟨oc_labels, od_labels, .func (PySem.W.fnOf "_law_labels" "_law_labels" (C8.fnArgs s_law_labels) (C8.fnBody s_law_labels) (C8.fnScope s_law_labels) .none kV_labels dc_labels pm_labels an_labels cd_labels ct_labels), sl_labels⟩) (c_labels : PySem.W.codeIn K cd_labels "_law_labels" = true) (k_labels : PySem.W.keepIn K (.ref f_labels) = true)
    (a_members : PySem.W.nsIn K mainGlobals "_law_members" = some (some (.ref f_members))) (l_members : K.lookup f_members = some ⟨oc_members, od_members, .func (PySem.W.fnOf "_law_members" "_law_members" (C8.fnArgs s_law_members) (C8.fnBody s_law_members) (C8.fnScope s_law_members) .none kV_members dc_members pm_members an_members cd_members ct_members), sl_members⟩) (c_members : PySem.W.codeIn K cd_members "_law_members" = true) (k_members : PySem.W.keepIn K (.ref f_members) = true)
    (a_book : PySem.W.nsIn K mainGlobals "_law_book" = some (some (.ref f_book))) (l_book : K.lookup f_book = some ⟨oc_book, od_book, .func (PySem.W.fnOf "_law_book" "_law_book" (C8.fnArgs s_law_book) (C8.fnBody s_law_book) (C8.fnScope s_law_book) .none kV_book dc_book pm_book an_book cd_book ct_book), sl_book⟩) (c_book : PySem.W.codeIn K cd_book "_law_book" = true) (k_book : PySem.W.keepIn K (.ref f_book) = true)
    (a_mixed : PySem.W.nsIn K mainGlobals "_law_mixed" = some (some (.ref f_mixed))) (l_mixed : K.lookup f_mixed = some ⟨oc_mixed, od_mixed, .func (PySem.W.fnOf "_law_mixed" "_law_mixed" (C8.fnArgs s_law_mixed) (C8.fnBody s_law_mixed) (C8.fnScope s_law_mixed) .none kV_mixed dc_mixed pm_mixed an_mixed cd_mixed ct_mixed), sl_mixed⟩) (c_mixed : PySem.W.codeIn K cd_mixed "_law_mixed" = true) (k_mixed : PySem.W.keepIn K (.ref f_mixed) = true)
    (a_sorted : PySem.W.nsIn K mainGlobals "_law_sorted_labels" = some (some (.ref f_sorted))) (l_sorted : K.lookup f_sorted = some ⟨oc_sorted, od_sorted, .func (PySem.W.fnOf "_law_sorted_labels" "_law_sorted_labels" (C8.fnArgs s_law_sorted_labels) (C8.fnBody s_law_sorted_labels) (C8.fnScope s_law_sorted_labels) .none kV_sorted dc_sorted pm_sorted an_sorted cd_sorted ct_sorted), sl_sorted⟩) (c_sorted : PySem.W.codeIn K cd_sorted "_law_sorted_labels" = true) (k_sorted : PySem.W.keepIn K (.ref f_sorted) = true)
    (a_inner : PySem.W.nsIn K mainGlobals "_law_inner" = some (some (.ref f_inner))) (l_inner : K.lookup f_inner = some ⟨oc_inner, od_inner, .func (PySem.W.fnOf "_law_inner" "_law_inner" (C8.fnArgs s_law_inner) (C8.fnBody s_law_inner) (C8.fnScope s_law_inner) .none kV_inner dc_inner pm_inner an_inner cd_inner ct_inner), sl_inner⟩) (c_inner : PySem.W.codeIn K cd_inner "_law_inner" = true) (k_inner : PySem.W.keepIn K (.ref f_inner) = true)
    (a_full : PySem.W.nsIn K mainGlobals "_law_is_full" = some (some (.ref f_full))) (l_full : K.lookup f_full = some ⟨oc_full, od_full, .func (PySem.W.fnOf "_law_is_full" "_law_is_full" (C8.fnArgs s_law_is_full) (C8.fnBody s_law_is_full) (C8.fnScope s_law_is_full) .none kV_full dc_full pm_full an_full cd_full ct_full), sl_full⟩) (c_full : PySem.W.codeIn K cd_full "_law_is_full" = true) (k_full : PySem.W.keepIn K (.ref f_full) = true)
    (a_barred : PySem.W.nsIn K mainGlobals "_law_barred_right" = some (some (.ref f_barred))) (l_barred : K.lookup f_barred = some ⟨oc_barred, od_barred, .func (PySem.W.fnOf "_law_barred_right" "_law_barred_right" (C8.fnArgs s_barred) (C8.fnBody s_barred) (C8.fnScope s_barred) .none kV_barred dc_barred pm_barred an_barred cd_barred ct_barred), sl_barred⟩) (c_barred : PySem.W.codeIn K cd_barred "_law_barred_right" = true) (k_barred : PySem.W.keepIn K (.ref f_barred) = true)
    (a_nright : PySem.W.nsIn K mainGlobals "_law_names_right" = some (some (.ref f_nright))) (l_nright : K.lookup f_nright = some ⟨oc_nright, od_nright, .func (PySem.W.fnOf "_law_names_right" "_law_names_right" (C8.fnArgs s_nright) (C8.fnBody s_nright) (C8.fnScope s_nright) .none kV_nright dc_nright pm_nright an_nright cd_nright ct_nright), sl_nright⟩) (c_nright : PySem.W.codeIn K cd_nright "_law_names_right" = true) (k_nright : PySem.W.keepIn K (.ref f_nright) = true)
    (a_alone : PySem.W.nsIn K mainGlobals "_law_alone_right" = some (some (.ref f_alone))) (l_alone : K.lookup f_alone = some ⟨oc_alone, od_alone, .func (PySem.W.fnOf "_law_alone_right" "_law_alone_right" (C8.fnArgs s_alone) (C8.fnBody s_alone) (C8.fnScope s_alone) .none kV_alone dc_alone pm_alone an_alone cd_alone ct_alone), sl_alone⟩) (c_alone : PySem.W.codeIn K cd_alone "_law_alone_right" = true) (k_alone : PySem.W.keepIn K (.ref f_alone) = true)
    (a_turned : PySem.W.nsIn K mainGlobals "_law_turned" = some (some (.ref f_turned))) (l_turned : K.lookup f_turned = some ⟨oc_turned, od_turned, .func (PySem.W.fnOf "_law_turned" "_law_turned" (C8.fnArgs s_law_turned) (C8.fnBody s_law_turned) (C8.fnScope s_law_turned) .none kV_turned dc_turned pm_turned an_turned cd_turned ct_turned), sl_turned⟩) (c_turned : PySem.W.codeIn K cd_turned "_law_turned" = true) (k_turned : PySem.W.keepIn K (.ref f_turned) = true)
    (a_two : PySem.W.nsIn K mainGlobals "_law_two_right" = some (some (.ref f_two))) (l_two : K.lookup f_two = some ⟨oc_two, od_two, .func (PySem.W.fnOf "_law_two_right" "_law_two_right" (C8.fnArgs s_two) (C8.fnBody s_two) (C8.fnScope s_two) .none kV_two dc_two pm_two an_two cd_two ct_two), sl_two⟩) (c_two : PySem.W.codeIn K cd_two "_law_two_right" = true) (k_two : PySem.W.keepIn K (.ref f_two) = true)
    (a_right : PySem.W.nsIn K mainGlobals "_law_right" = some (some (.ref f_right))) (l_right : K.lookup f_right = some ⟨oc_right, od_right, .func (PySem.W.fnOf "_law_right" "_law_right" (C8.fnArgs s_right) (C8.fnBody s_right) (C8.fnScope s_right) .none kV_right dc_right pm_right an_right cd_right ct_right), sl_right⟩) (c_right : PySem.W.codeIn K cd_right "_law_right" = true) (k_right : PySem.W.keepIn K (.ref f_right) = true)
    (a_law : PySem.W.nsIn K mainGlobals "law" = some (some (.ref f_law))) (l_law : K.lookup f_law = some ⟨oc_law, od_law, .func (PySem.W.fnOf "law" "law" (C8.fnArgs s_law) (C8.fnBody s_law) (C8.fnScope s_law) .none kV_law dc_law pm_law an_law cd_law ct_law), sl_law⟩) (c_law : PySem.W.codeIn K cd_law "law" = true) (k_law : PySem.W.keepIn K (.ref f_law) = true)
    (a_C : PySem.W.nsIn K mainGlobals "Book" = some (some (.ref C)))
    (a_init : PySem.W.findIn K (.ref C) "__init__" = some (some (.ref f_init))) (i_init : PySem.W.isFn K (.ref f_init) = true) (l_init : K.lookup f_init = some ⟨oc_init, od_init, .func (PySem.W.fnOf "__init__" "Book.__init__" (C8.fnArgs s_init) (C8.fnBody s_init) (C8.fnScope s_init) (.ref TI) kV_init dc_init pm_init an_init cd_init ct_init), sl_init⟩) (c_init : PySem.W.codeIn K cd_init "Book.__init__" = true) (l_T : K.lookup TI = some oT) (d_T : oT.data = .seq #[uT] nT)
    (a_m_names : PySem.W.findIn K (.ref C) "names" = some (some (.ref f_m_names))) (i_m_names : PySem.W.isFn K (.ref f_m_names) = true) (l_m_names : K.lookup f_m_names = some ⟨oc_m_names, od_m_names, .func (PySem.W.fnOf "names" "Book.names" (C8.fnArgs s_names) (C8.fnBody s_names) (C8.fnScope s_names) .none kV_m_names dc_m_names pm_m_names an_m_names cd_m_names ct_m_names), sl_m_names⟩) (c_m_names : PySem.W.codeIn K cd_m_names "Book.names" = true) (k_m_names : PySem.W.keepIn K (.ref f_m_names) = true)
    (a_m_around : PySem.W.findIn K (.ref C) "groups_around" = some (some (.ref f_m_around))) (i_m_around : PySem.W.isFn K (.ref f_m_around) = true) (l_m_around : K.lookup f_m_around = some ⟨oc_m_around, od_m_around, .func (PySem.W.fnOf "groups_around" "Book.groups_around" (C8.fnArgs s_around) (C8.fnBody s_around) (C8.fnScope s_around) .none kV_m_around dc_m_around pm_m_around an_m_around cd_m_around ct_m_around), sl_m_around⟩) (c_m_around : PySem.W.codeIn K cd_m_around "Book.groups_around" = true) (k_m_around : PySem.W.keepIn K (.ref f_m_around) = true)
    (a_m_plc : PySem.W.findIn K (.ref C) "places" = some (some (.ref f_m_plc))) (i_m_plc : PySem.W.isFn K (.ref f_m_plc) = true) (l_m_plc : K.lookup f_m_plc = some ⟨oc_m_plc, od_m_plc, .func (PySem.W.fnOf "places" "Book.places" (C8.fnArgs s_plc) (C8.fnBody s_plc) (C8.fnScope s_plc) .none kV_m_plc dc_m_plc pm_m_plc an_m_plc cd_m_plc ct_m_plc), sl_m_plc⟩) (c_m_plc : PySem.W.codeIn K cd_m_plc "Book.places" = true) (k_m_plc : PySem.W.keepIn K (.ref f_m_plc) = true)
    (a_m_has : PySem.W.findIn K (.ref C) "__contains__" = some (some (.ref f_m_has))) (i_m_has : PySem.W.isFn K (.ref f_m_has) = true) (l_m_has : K.lookup f_m_has = some ⟨oc_m_has, od_m_has, .func (PySem.W.fnOf "__contains__" "Book.__contains__" (C8.fnArgs s_has) (C8.fnBody s_has) (C8.fnScope s_has) .none kV_m_has dc_m_has pm_m_has an_m_has cd_m_has ct_m_has), sl_m_has⟩) (c_m_has : PySem.W.codeIn K cd_m_has "Book.__contains__" = true) (k_m_has : PySem.W.keepIn K (.ref f_m_has) = true)
    (pg : PySem.W.plainGet K C Str.empty = true) (hd : PySem.W.hasDictIn K C = true) (po : PySem.W.plainOver K C = true) (sa : PySem.W.findIn K (.ref C) "__setattr__" = some (some (.builtin "object.__setattr__"))) (mk : PySem.W.makesIn K C = true) (kc : PySem.W.keepIn K (.ref C) = true)
    (n1 : PySem.W.findIn K (.ref C) "_counters" = some none) (n2 : PySem.W.findIn K (.ref C) "_members" = some none) (n3 : PySem.W.findIn K (.ref C) "_places" = some none) (n4 : PySem.W.findIn K (.ref C) "_groups_around" = some none)
    (ty : PySem.W.typeIn K (.ref C) = some mc)
    (rd : PySem.W.readsIn K C mc = true) (ga : PySem.W.specialIn K (.ref C) "__getattribute__" = some (some (.builtin "type.__getattribute__"))) (fm : PySem.W.findCls K (.ref C) mc "MOST_COUNTERS" = some (.val (.int 5 tM)))
    (gL : PySem.W.nsIn K mainGlobals "LETTERS" = some (some (.str alpha tL))) (gD : PySem.W.nsIn K mainGlobals "DIGITS" = some (some (.str digs tD))) (gN : PySem.W.nsIn K mainGlobals "LONGEST_NAME" = some (some (.int 8 tN)))
    (z_len : PySem.W.nsIn K mainGlobals "len" = some none) (z_range : PySem.W.nsIn K mainGlobals "range" = some none) (z_divmod : PySem.W.nsIn K mainGlobals "divmod" = some none) (z_int : PySem.W.nsIn K mainGlobals "int" = some none) (z_str : PySem.W.nsIn K mainGlobals "str" = some none) (z_min : PySem.W.nsIn K mainGlobals "min" = some none) (z_max : PySem.W.nsIn K mainGlobals "max" = some none) (z_abs : PySem.W.nsIn K mainGlobals "abs" = some none) (z_list : PySem.W.nsIn K mainGlobals "list" = some none) (z_tuple : PySem.W.nsIn K mainGlobals "tuple" = some none) (z_all : PySem.W.nsIn K mainGlobals "all" = some none) (z_dict : PySem.W.nsIn K mainGlobals "dict" = some none) (z_sorted : PySem.W.nsIn K mainGlobals "sorted" = some none) (z_repr : PySem.W.nsIn K mainGlobals "repr" = some none) (z_enumerate : PySem.W.nsIn K mainGlobals "enumerate" = some none) (z_isinstance : PySem.W.nsIn K mainGlobals "isinstance" = some none) (z_sum : PySem.W.nsIn K mainGlobals "sum" = some none) :
    ∃ fd : FuncData, (∀ (s : Shared) (v : Value), BindsTo s fd ⟨[v], []⟩ [("_law_script", v)]) ∧ ∀ base : Heap, K.In base → base.Ns mainGlobals mg → FnG P w K mg base 9 fa fd ["_law_script"] (spLawG K) := by
  have e := hfa.symm.trans (PySem.W.mg_of X G a_law)
  cases e
  have T : Bi mg := ⟨PySem.W.mg_none_of X G z_len, PySem.W.mg_none_of X G z_range, PySem.W.mg_none_of X G z_divmod, PySem.W.mg_none_of X G z_int, PySem.W.mg_none_of X G z_str, PySem.W.mg_none_of X G z_min, PySem.W.mg_none_of X G z_max, PySem.W.mg_none_of X G z_abs, PySem.W.mg_none_of X G z_list, PySem.W.mg_none_of X G z_tuple, PySem.W.mg_none_of X G z_all, PySem.W.mg_none_of X G z_dict, PySem.W.mg_none_of X G z_sorted, PySem.W.mg_none_of X G z_repr, PySem.W.mg_none_of X G z_enumerate, PySem.W.mg_none_of X G z_isinstance, PySem.W.mg_none_of X G z_sum⟩
  have Gg : Gb mg := ⟨⟨_, PySem.W.mg_of X G gL, ⟨_, rfl⟩⟩, ⟨_, PySem.W.mg_of X G gD, ⟨_, rfl⟩⟩, ⟨_, PySem.W.mg_of X G gN, ⟨_, rfl⟩⟩⟩
  have B : Bk K mg C := ⟨⟨pg, hd, po, sa⟩, PySem.W.mg_of X G a_C, ⟨mc, _, ⟨rd, ga⟩, ⟨fm, ⟨_, rfl⟩⟩⟩, n1, n2, n3, n4⟩
  have D_isn : C8.Def K mg "is_name" s_is_name f_isn _ := def_mk (st := s_is_name) (PySem.W.mg_of X G a_isn) l_isn c_isn k_isn
  have b_isn := D_isn.fn.binds (ps := ["value"]) rfl fun _ _ _ _ _ _ us hl => match us, hl with | [_], _ => rfl
  have D_isl : C8.Def K mg "is_list" s_is_list f_isl _ := def_mk (st := s_is_list) (PySem.W.mg_of X G a_isl) l_isl c_isl k_isl
  have b_isl := D_isl.fn.binds (ps := ["value"]) rfl fun _ _ _ _ _ _ us hl => match us, hl with | [_], _ => rfl
  have D_known : C8.Def K mg "check_known" s_known f_known _ := def_mk (st := s_known) (PySem.W.mg_of X G a_known) l_known c_known k_known
  have b_known := D_known.fn.binds (ps := ["book", "name"]) rfl fun _ _ _ _ _ _ us hl => match us, hl with | [_, _], _ => rfl
  have D_places : C8.Def K mg "places_among" s_places f_places _ := def_mk (st := s_places) (PySem.W.mg_of X G a_places) l_places c_places k_places
  have b_places := D_places.fn.binds (ps := ["counters", "members"]) rfl fun _ _ _ _ _ _ us hl => match us, hl with | [_, _], _ => rfl
  have D_outer : C8.Def K mg "outer_groups" s_outer f_outer _ := def_mk (st := s_outer) (PySem.W.mg_of X G a_outer) l_outer c_outer k_outer
  have b_outer := D_outer.fn.binds (ps := ["members"]) rfl fun _ _ _ _ _ _ us hl => match us, hl with | [_], _ => rfl
  have D_with : C8.Def K mg "groups_with" s_with f_with _ := def_mk (st := s_with) (PySem.W.mg_of X G a_with) l_with c_with k_with
  have b_with := D_with.fn.binds (ps := ["groups", "members"]) rfl fun _ _ _ _ _ _ us hl => match us, hl with | [_, _], _ => rfl
  have D_cc : C8.Def K mg "check_counters" s_check_counters f_cc _ := def_mk (st := s_check_counters) (PySem.W.mg_of X G a_cc) l_cc c_cc k_cc
  have b_cc := D_cc.fn.binds (ps := ["counters"]) rfl fun _ _ _ _ _ _ us hl => match us, hl with | [_], _ => rfl
  have D_mog : C8.Def K mg "members_of_groups" s_mog f_mog _ := def_mk (st := s_mog) (PySem.W.mg_of X G a_mog) l_mog c_mog k_mog
  have b_mog := D_mog.fn.binds (ps := ["counters", "groups"]) rfl fun _ _ _ _ _ _ us hl => match us, hl with | [_, _], _ => rfl
  have D_isg : C8.Def K mg "is_group" s_is_group f_isg _ := def_mk (st := s_is_group) (PySem.W.mg_of X G a_isg) l_isg c_isg k_isg
  have b_isg := D_isg.fn.binds (ps := ["counters", "group"]) rfl fun _ _ _ _ _ _ us hl => match us, hl with | [_, _], _ => rfl
  have D_cap : C8.Def K mg "check_apart" s_check_apart f_cap _ := def_mk (st := s_check_apart) (PySem.W.mg_of X G a_cap) l_cap c_cap k_cap
  have b_cap := D_cap.fn.binds (ps := ["name", "members", "earlier", "others"]) rfl fun _ _ _ _ _ _ us hl => match us, hl with | [_, _, _, _], _ => rfl
  have D_fnames : C8.Def K mg "filled_names" s_fnames f_fnames _ := def_mk (st := s_fnames) (PySem.W.mg_of X G a_fnames) l_fnames c_fnames k_fnames
  have b_fnames := D_fnames.fn.binds (ps := ["book", "names"]) rfl fun _ _ _ _ _ _ us hl => match us, hl with | [_, _], _ => rfl
  have D_poss : C8.Def K mg "is_possible" s_poss f_poss _ := def_mk (st := s_poss) (PySem.W.mg_of X G a_poss) l_poss c_poss k_poss
  have b_poss := D_poss.fn.binds (ps := ["book", "names", "letter"]) rfl fun _ _ _ _ _ _ us hl => match us, hl with | [_, _, _], _ => rfl
  have D_asked : C8.Def K mg "asked_names" s_asked f_asked _ := def_mk (st := s_asked) (PySem.W.mg_of X G a_asked) l_asked c_asked k_asked
  have b_asked := D_asked.fn.binds (ps := ["book", "names"]) rfl fun _ _ _ _ _ _ us hl => match us, hl with | [_, _], _ => rfl
  have D_parts : C8.Def K mg "parts_of_asked" s_parts f_parts _ := def_mk (st := s_parts) (PySem.W.mg_of X G a_parts) l_parts c_parts k_parts
  have b_parts := D_parts.fn.binds (ps := ["book", "asked"]) rfl fun _ _ _ _ _ _ us hl => match us, hl with | [_, _], _ => rfl
  have D_fparts : C8.Def K mg "filled_parts" s_fparts f_fparts _ := def_mk (st := s_fparts) (PySem.W.mg_of X G a_fparts) l_fparts c_fparts k_fparts
  have b_fparts := D_fparts.fn.binds (ps := ["book", "asked"]) rfl fun _ _ _ _ _ _ us hl => match us, hl with | [_, _], _ => rfl
  have D_filled : C8.Def K mg "is_filled" s_filled f_filled _ := def_mk (st := s_filled) (PySem.W.mg_of X G a_filled) l_filled c_filled k_filled
  have b_filled := D_filled.fn.binds (ps := ["book", "name", "parts"]) rfl fun _ _ _ _ _ _ us hl => match us, hl with | [_, _, _], _ => rfl
  have D_letter : C8.Def K mg "is_letter_of" s_letter f_letter _ := def_mk (st := s_letter) (PySem.W.mg_of X G a_letter) l_letter c_letter k_letter
  have b_letter := D_letter.fn.binds (ps := ["asked", "value"]) rfl fun _ _ _ _ _ _ us hl => match us, hl with | [_, _], _ => rfl
  have D_agrees : C8.Def K mg "agrees" s_agrees f_agrees _ := def_mk (st := s_agrees) (PySem.W.mg_of X G a_agrees) l_agrees c_agrees k_agrees
  have b_agrees := D_agrees.fn.binds (ps := ["filled", "letter"]) rfl fun _ _ _ _ _ _ us hl => match us, hl with | [_, _], _ => rfl
  have D_pot : C8.Def K mg "_law_pot" s_law_pot f_pot _ := def_mk (st := s_law_pot) (PySem.W.mg_of X G a_pot) l_pot c_pot k_pot
  have b_pot := D_pot.fn.binds (ps := ["_law_script", "_law_k"]) rfl fun _ _ _ _ _ _ us hl => match us, hl with | [_, _], _ => rfl
  have D_draw : C8.Def K mg "_law_draw" s_law_draw f_draw _ := def_mk (st := s_law_draw) (PySem.W.mg_of X G a_draw) l_draw c_draw k_draw
  have b_draw := D_draw.fn.binds (ps := ["_law_pot_here", "_law_many"]) rfl fun _ _ _ _ _ _ us hl => match us, hl with | [_, _], _ => rfl
  have D_named : C8.Def K mg "_law_named" s_law_named f_named _ := def_mk (st := s_law_named) (PySem.W.mg_of X G a_named) l_named c_named k_named
  have b_named := D_named.fn.binds (ps := ["_law_pot_here", "_law_many", "_law_taken"]) rfl fun _ _ _ _ _ _ us hl => match us, hl with | [_, _, _], _ => rfl
  have D_wide : C8.Def K mg "_law_wide_model" s_law_wide_model f_wide _ := def_mk (st := s_law_wide_model) (PySem.W.mg_of X G a_wide) l_wide c_wide k_wide
  have b_wide := D_wide.fn.binds (ps := ["_law_pot_here"]) rfl fun _ _ _ _ _ _ us hl => match us, hl with | [_], _ => rfl
  have D_labels : C8.Def K mg "_law_labels" s_law_labels f_labels _ := def_mk (st := s_law_labels) (PySem.W.mg_of X G a_labels) l_labels c_labels k_labels
  have b_labels := D_labels.fn.binds (ps := ["_law_model"]) rfl fun _ _ _ _ _ _ us hl => match us, hl with | [_], _ => rfl
  have D_members : C8.Def K mg "_law_members" s_law_members f_members _ := def_mk (st := s_law_members) (PySem.W.mg_of X G a_members) l_members c_members k_members
  have b_members := D_members.fn.binds (ps := ["_law_model", "_law_label"]) rfl fun _ _ _ _ _ _ us hl => match us, hl with | [_, _], _ => rfl
  have D_book : C8.Def K mg "_law_book" s_law_book f_book _ := def_mk (st := s_law_book) (PySem.W.mg_of X G a_book) l_book c_book k_book
  have b_book := D_book.fn.binds (ps := ["_law_model"]) rfl fun _ _ _ _ _ _ us hl => match us, hl with | [_], _ => rfl
  have D_mixed : C8.Def K mg "_law_mixed" s_law_mixed f_mixed _ := def_mk (st := s_law_mixed) (PySem.W.mg_of X G a_mixed) l_mixed c_mixed k_mixed
  have b_mixed := D_mixed.fn.binds (ps := ["_law_pot_here", "_law_labels_here", "_law_most"]) rfl fun _ _ _ _ _ _ us hl => match us, hl with | [_, _, _], _ => rfl
  have D_sorted : C8.Def K mg "_law_sorted_labels" s_law_sorted_labels f_sorted _ := def_mk (st := s_law_sorted_labels) (PySem.W.mg_of X G a_sorted) l_sorted c_sorted k_sorted
  have b_sorted := D_sorted.fn.binds (ps := ["_law_model", "_law_some"]) rfl fun _ _ _ _ _ _ us hl => match us, hl with | [_, _], _ => rfl
  have D_inner : C8.Def K mg "_law_inner" s_law_inner f_inner _ := def_mk (st := s_law_inner) (PySem.W.mg_of X G a_inner) l_inner c_inner k_inner
  have b_inner := D_inner.fn.binds (ps := ["_law_model", "_law_asked", "_law_label"]) rfl fun _ _ _ _ _ _ us hl => match us, hl with | [_, _, _], _ => rfl
  have D_full : C8.Def K mg "_law_is_full" s_law_is_full f_full _ := def_mk (st := s_law_is_full) (PySem.W.mg_of X G a_full) l_full c_full k_full
  have b_full := D_full.fn.binds (ps := ["_law_model", "_law_asked", "_law_label"]) rfl fun _ _ _ _ _ _ us hl => match us, hl with | [_, _, _], _ => rfl
  have D_barred : C8.Def K mg "_law_barred_right" s_barred f_barred _ := def_mk (st := s_barred) (PySem.W.mg_of X G a_barred) l_barred c_barred k_barred
  have b_barred := D_barred.fn.binds (ps := ["_law_shelf", "_law_model", "_law_some", "_law_label", "_law_is_full_here"]) rfl fun _ _ _ _ _ _ us hl => match us, hl with | [_, _, _, _, _], _ => rfl
  have D_nright : C8.Def K mg "_law_names_right" s_nright f_nright _ := def_mk (st := s_nright) (PySem.W.mg_of X G a_nright) l_nright c_nright k_nright
  have b_nright := D_nright.fn.binds (ps := ["_law_pot_here", "_law_model", "_law_shelf"]) rfl fun _ _ _ _ _ _ us hl => match us, hl with | [_, _, _], _ => rfl
  have D_alone : C8.Def K mg "_law_alone_right" s_alone f_alone _ := def_mk (st := s_alone) (PySem.W.mg_of X G a_alone) l_alone c_alone k_alone
  have b_alone := D_alone.fn.binds (ps := ["_law_pot_here", "_law_model", "_law_shelf"]) rfl fun _ _ _ _ _ _ us hl => match us, hl with | [_, _, _], _ => rfl
  have D_turned : C8.Def K mg "_law_turned" s_law_turned f_turned _ := def_mk (st := s_law_turned) (PySem.W.mg_of X G a_turned) l_turned c_turned k_turned
  have b_turned := D_turned.fn.binds (ps := ["_law_model"]) rfl fun _ _ _ _ _ _ us hl => match us, hl with | [_], _ => rfl
  have D_two : C8.Def K mg "_law_two_right" s_two f_two _ := def_mk (st := s_two) (PySem.W.mg_of X G a_two) l_two c_two k_two
  have b_two := D_two.fn.binds (ps := ["_law_model"]) rfl fun _ _ _ _ _ _ us hl => match us, hl with | [_], _ => rfl
  have D_right : C8.Def K mg "_law_right" s_right f_right _ := def_mk (st := s_right) (PySem.W.mg_of X G a_right) l_right c_right k_right
  have b_right := D_right.fn.binds (ps := ["_law_pot_here"]) rfl fun _ _ _ _ _ _ us hl => match us, hl with | [_], _ => rfl
  have D_law : C8.Def K mg "law" s_law fa _ := def_mk (st := s_law) (PySem.W.mg_of X G a_law) l_law c_law k_law
  have F_m_names : C8.Fun K "names" "Book.names" s_names f_m_names _ := ⟨_, _, .none, _, _, _, _, _, _, _, rfl, l_m_names, c_m_names⟩
  have b_m_names := F_m_names.binds (ps := ["self"]) rfl fun _ _ _ _ _ _ us hl => match us, hl with | [_], _ => rfl
  have F_m_around : C8.Fun K "groups_around" "Book.groups_around" s_around f_m_around _ := ⟨_, _, .none, _, _, _, _, _, _, _, rfl, l_m_around, c_m_around⟩
  have b_m_around := F_m_around.binds (ps := ["self", "name"]) rfl fun _ _ _ _ _ _ us hl => match us, hl with | [_, _], _ => rfl
  have F_m_plc : C8.Fun K "places" "Book.places" s_plc f_m_plc _ := ⟨_, _, .none, _, _, _, _, _, _, _, rfl, l_m_plc, c_m_plc⟩
  have b_m_plc := F_m_plc.binds (ps := ["self", "name"]) rfl fun _ _ _ _ _ _ us hl => match us, hl with | [_, _], _ => rfl
  have F_m_has : C8.Fun K "__contains__" "Book.__contains__" s_has f_m_has _ := ⟨_, _, .none, _, _, _, _, _, _, _, rfl, l_m_has, c_m_has⟩
  have b_m_has := F_m_has.binds (ps := ["self", "x"]) rfl fun _ _ _ _ _ _ us hl => match us, hl with | [_, _], _ => rfl
  have F_init : C8.Fun K "__init__" "Book.__init__" s_init f_init _ := ⟨_, _, .ref TI, _, _, _, _, _, _, _, rfl, l_init, c_init⟩
  have kb := binds_k2 (k1 := "names") (k2 := "book") (ps := ["book", "names"]) D_fnames.fn rfl fun _ _ _ _ _ _ _ _ => rfl
  refine ⟨PySem.W.fnOf "law" "law" (C8.fnArgs s_law) (C8.fnBody s_law) (C8.fnScope s_law) .none kV_law dc_law pm_law an_law cd_law ct_law, fun s v => .of_eq rfl, fun base _ _ => ?_⟩
  have c_draw := ok_draw (P := P) (w := w) (base := base) D_draw b_draw T
  have c_named := ok_named (P := P) (w := w) (base := base) D_named b_named T c_draw
  have c_wide := ok_wide (P := P) (w := w) (base := base) D_wide b_wide T c_draw c_named
  have c_labels := ok_labels (P := P) (w := w) (base := base) D_labels b_labels T
  have c_members := ok_members (P := P) (w := w) (base := base) D_members b_members T
  have c_sorted := ok_sorted (P := P) (w := w) (base := base) D_sorted b_sorted T c_labels
  have c_inner := ok_inner (P := P) (w := w) (base := base) D_inner b_inner T c_members
  have c_full := ok_full (P := P) (w := w) (base := base) D_full b_full T c_members c_inner
  have c_mixed := ok_mixed (P := P) (w := w) (base := base) D_mixed b_mixed T c_draw
  have c_pot := ok_pot (P := P) (w := w) (base := base) D_pot b_pot T
  have c_turned := ok_turned (P := P) (w := w) (base := base) D_turned b_turned T
  have c_isn := ok_is_name (P := P) (w := w) (base := base) D_isn b_isn T Gg
  have c_isl := ok_is_list (P := P) (w := w) (base := base) D_isl b_isl T
  have c_cc := ok_check_counters (P := P) (w := w) (base := base) D_cc b_cc T c_isn
  have c_cap := ok_check_apart (P := P) (w := w) (base := base) D_cap b_cap T
  have c_isg := ok_is_group (P := P) (w := w) (base := base) D_isg b_isg T c_isn c_isl
  have c_mog := ok_mog (P := P) (w := w) (base := base) D_mog b_mog T c_isg c_cap
  have c_places := ok_places (P := P) (w := w) (base := base) D_places b_places T
  have c_with := ok_with (P := P) (w := w) (base := base) D_with b_with T
  have c_outer := ok_outer (P := P) (w := w) (base := base) D_outer b_outer T c_with
  have c_init := ok_init (P := P) (w := w) (base := base) B ⟨mk, a_init, i_init, kc⟩ F_init (binds_init l_T d_T) .nil T c_isl c_cc c_mog c_places c_outer
  have c_book := ok_book (P := P) (w := w) (base := base) D_book b_book T c_init
  have m_names := ok_names (P := P) (w := w) (base := base) B ⟨a_m_names, i_m_names, k_m_names⟩ F_m_names b_m_names T
  have m_has := ok_has (P := P) (w := w) (base := base) B ⟨a_m_has, i_m_has, k_m_has⟩ F_m_has b_m_has T
  have m_around := ok_around (P := P) (w := w) (base := base) B ⟨a_m_around, i_m_around, k_m_around⟩ F_m_around b_m_around
  have m_plc := ok_plc (P := P) (w := w) (base := base) B ⟨a_m_plc, i_m_plc, k_m_plc⟩ F_m_plc b_m_plc
  have c_known := ok_known (P := P) (w := w) (base := base) D_known b_known m_has
  have c_asked := ok_asked (P := P) (w := w) (base := base) D_asked b_asked T c_isl c_known m_names
  have c_parts := ok_parts (P := P) (w := w) (base := base) D_parts b_parts T m_around
  have c_filled := ok_filled (P := P) (w := w) (base := base) D_filled b_filled T m_plc
  have c_fparts := ok_fparts (P := P) (w := w) (base := base) D_fparts b_fparts c_parts c_filled
  have c_fnames := ok_fnames (P := P) (w := w) (base := base) D_fnames b_fnames T c_fparts c_asked
  have k_fn := okK_fnames (P := P) (w := w) (base := base) D_fnames kb T c_fparts c_asked
  have c_letter := ok_letter (P := P) (w := w) (base := base) D_letter b_letter T
  have c_agrees := ok_agrees (P := P) (w := w) (base := base) D_agrees b_agrees T
  have c_poss := ok_poss (P := P) (w := w) (base := base) D_poss b_poss c_asked c_letter c_fparts c_agrees
  have g_barred := ok_barred (P := P) (w := w) (base := base) D_barred b_barred T c_inner c_poss
  have g_nright := ok_nright (P := P) (w := w) (base := base) D_nright b_nright T c_mixed c_labels c_sorted c_full c_fnames k_fn c_poss
  have g_alone := ok_alone (P := P) (w := w) (base := base) D_alone b_alone T c_draw c_labels c_inner c_full g_barred
  have g_two := ok_two (P := P) (w := w) (base := base) D_two b_two T c_labels c_turned c_full c_book c_fnames
  have g_right := ok_right (P := P) (w := w) (base := base) D_right b_right T c_wide c_book c_fnames g_two g_nright g_alone
  exact ok_law (P := P) (w := w) (base := base) D_law.fn T c_pot g_right
end Dl
end
section
set_option Elab.async false
set_option maxRecDepth 100000
open PySem PySem.W PyProof.Rows in
set_option maxRecDepth 100000 in
set_option maxHeartbeats 0 in
theorem PySem.Challenge.cw_surerise_k23_filled_names_holds : PySem.Challenge.rw_surerise_k23_filled_names.Holds := by
  w_on; o_law; k_head; (case hw => w_witness2)
  k_fill
  refine Dl.walk_g (l := PySem.Challenge.rw_surerise_k23_filled_names) (k := 9) (x := "_law_script") rfl rfl ⟨rfl, by decide, by decide⟩ (fun w h Y => PySem.W.kIn_of Y) ?F
  case F =>
    intro w mg fa h KX G hmg
    refine' Dl.all_mk KX G hmg ?a_isn ?l_isn ?c_isn ?k_isn ?a_isl ?l_isl ?c_isl ?k_isl ?a_known ?l_known ?c_known ?k_known ?a_places ?l_places ?c_places ?k_places ?a_outer ?l_outer ?c_outer ?k_outer ?a_with ?l_with ?c_with ?k_with ?a_cc ?l_cc ?c_cc ?k_cc ?a_mog ?l_mog ?c_mog ?k_mog ?a_isg ?l_isg ?c_isg ?k_isg ?a_cap ?l_cap ?c_cap ?k_cap ?a_fnames ?l_fnames ?c_fnames ?k_fnames ?a_poss ?l_poss ?c_poss ?k_poss ?a_asked ?l_asked ?c_asked ?k_asked ?a_parts ?l_parts ?c_parts ?k_parts ?a_fparts ?l_fparts ?c_fparts ?k_fparts ?a_filled ?l_filled ?c_filled ?k_filled ?a_letter ?l_letter ?c_letter ?k_letter ?a_agrees ?l_agrees ?c_agrees ?k_agrees ?a_pot ?l_pot ?c_pot ?k_pot ?a_draw ?l_draw ?c_draw ?k_draw ?a_named ?l_named ?c_named ?k_named ?a_wide ?l_wide ?c_wide ?k_wide ?a_labels ?l_labels ?c_labels ?k_labels ?a_members ?l_members ?c_members ?k_members ?a_book ?l_book ?c_book ?k_book ?a_mixed ?l_mixed ?c_mixed ?k_mixed ?a_sorted ?l_sorted ?c_sorted ?k_sorted ?a_inner ?l_inner ?c_inner ?k_inner ?a_full ?l_full ?c_full ?k_full ?a_barred ?l_barred ?c_barred ?k_barred ?a_nright ?l_nright ?c_nright ?k_nright ?a_alone ?l_alone ?c_alone ?k_alone ?a_turned ?l_turned ?c_turned ?k_turned ?a_two ?l_two ?c_two ?k_two ?a_right ?l_right ?c_right ?k_right ?a_law ?l_law ?c_law ?k_law ?a_C ?a_init ?i_init ?l_init ?c_init ?l_T ?d_T ?a_m_names ?i_m_names ?l_m_names ?c_m_names ?k_m_names ?a_m_around ?i_m_around ?l_m_around ?c_m_around ?k_m_around ?a_m_plc ?i_m_plc ?l_m_plc ?c_m_plc ?k_m_plc ?a_m_has ?i_m_has ?l_m_has ?c_m_has ?k_m_has ?pg ?hd ?po ?sa ?mk ?kc ?n1 ?n2 ?n3 ?n4 ?ty ?rd ?ga ?fm ?gL ?gD ?gN ?z_len ?z_range ?z_divmod ?z_int ?z_str ?z_min ?z_max ?z_abs ?z_list ?z_tuple ?z_all ?z_dict ?z_sorted ?z_repr ?z_enumerate ?z_isinstance ?z_sum
    (case a_isn => k_is)
    (case l_isn => k_is)
    (case c_isn => k_is)
    (case k_isn => k_is)
    (case a_isl => k_is)
    (case l_isl => k_is)
    (case c_isl => k_is)
    (case k_isl => k_is)
    (case a_known => k_is)
    (case l_known => k_is)
    (case c_known => k_is)
    (case k_known => k_is)
    (case a_places => k_is)
    (case l_places => k_is)
    (case c_places => k_is)
    (case k_places => k_is)
    (case a_outer => k_is)
    (case l_outer => k_is)
    (case c_outer => k_is)
    (case k_outer => k_is)
    (case a_with => k_is)
    (case l_with => k_is)
    (case c_with => k_is)
    (case k_with => k_is)
    (case a_cc => k_is)
    (case l_cc => k_is)
    (case c_cc => k_is)
    (case k_cc => k_is)
    (case a_mog => k_is)
    (case l_mog => k_is)
    (case c_mog => k_is)
    (case k_mog => k_is)
    (case a_isg => k_is)
    (case l_isg => k_is)
    (case c_isg => k_is)
    (case k_isg => k_is)
    (case a_cap => k_is)
    (case l_cap => k_is)
    (case c_cap => k_is)
    (case k_cap => k_is)
    (case a_fnames => k_is)
    (case l_fnames => k_is)
    (case c_fnames => k_is)
    (case k_fnames => k_is)
    (case a_poss => k_is)
    (case l_poss => k_is)
    (case c_poss => k_is)
    (case k_poss => k_is)
    (case a_asked => k_is)
    (case l_asked => k_is)
    (case c_asked => k_is)
    (case k_asked => k_is)
    (case a_parts => k_is)
    (case l_parts => k_is)
    (case c_parts => k_is)
    (case k_parts => k_is)
    (case a_fparts => k_is)
    (case l_fparts => k_is)
    (case c_fparts => k_is)
    (case k_fparts => k_is)
    (case a_filled => k_is)
    (case l_filled => k_is)
    (case c_filled => k_is)
    (case k_filled => k_is)
    (case a_letter => k_is)
    (case l_letter => k_is)
    (case c_letter => k_is)
    (case k_letter => k_is)
    (case a_agrees => k_is)
    (case l_agrees => k_is)
    (case c_agrees => k_is)
    (case k_agrees => k_is)
    (case a_pot => k_is)
    (case l_pot => k_is)
    (case c_pot => k_is)
    (case k_pot => k_is)
    (case a_draw => k_is)
    (case l_draw => k_is)
    (case c_draw => k_is)
    (case k_draw => k_is)
    (case a_named => k_is)
    (case l_named => k_is)
    (case c_named => k_is)
    (case k_named => k_is)
    (case a_wide => k_is)
    (case l_wide => k_is)
    (case c_wide => k_is)
    (case k_wide => k_is)
    (case a_labels => k_is)
    (case l_labels => k_is)
    (case c_labels => k_is)
    (case k_labels => k_is)
    (case a_members => k_is)
    (case l_members => k_is)
    (case c_members => k_is)
    (case k_members => k_is)
    (case a_book => k_is)
    (case l_book => k_is)
    (case c_book => k_is)
    (case k_book => k_is)
    (case a_mixed => k_is)
    (case l_mixed => k_is)
    (case c_mixed => k_is)
    (case k_mixed => k_is)
    (case a_sorted => k_is)
    (case l_sorted => k_is)
    (case c_sorted => k_is)
    (case k_sorted => k_is)
    (case a_inner => k_is)
    (case l_inner => k_is)
    (case c_inner => k_is)
    (case k_inner => k_is)
    (case a_full => k_is)
    (case l_full => k_is)
    (case c_full => k_is)
    (case k_full => k_is)
    (case a_barred => k_is)
    (case l_barred => k_is)
    (case c_barred => k_is)
    (case k_barred => k_is)
    (case a_nright => k_is)
    (case l_nright => k_is)
    (case c_nright => k_is)
    (case k_nright => k_is)
    (case a_alone => k_is)
    (case l_alone => k_is)
    (case c_alone => k_is)
    (case k_alone => k_is)
    (case a_turned => k_is)
    (case l_turned => k_is)
    (case c_turned => k_is)
    (case k_turned => k_is)
    (case a_two => k_is)
    (case l_two => k_is)
    (case c_two => k_is)
    (case k_two => k_is)
    (case a_right => k_is)
    (case l_right => k_is)
    (case c_right => k_is)
    (case k_right => k_is)
    (case a_law => k_is)
    (case l_law => k_is)
    (case c_law => k_is)
    (case k_law => k_is)
    (case a_C => k_is)
    (case a_init => k_is)
    (case i_init => k_is)
    (case l_init => k_is)
    (case c_init => k_is)
    (case l_T => k_is)
    (case d_T => exact rfl)
    (case a_m_names => k_is)
    (case i_m_names => k_is)
    (case l_m_names => k_is)
    (case c_m_names => k_is)
    (case k_m_names => k_is)
    (case a_m_around => k_is)
    (case i_m_around => k_is)
    (case l_m_around => k_is)
    (case c_m_around => k_is)
    (case k_m_around => k_is)
    (case a_m_plc => k_is)
    (case i_m_plc => k_is)
    (case l_m_plc => k_is)
    (case c_m_plc => k_is)
    (case k_m_plc => k_is)
    (case a_m_has => k_is)
    (case i_m_has => k_is)
    (case l_m_has => k_is)
    (case c_m_has => k_is)
    (case k_m_has => k_is)
    (case pg => k_is)
    (case hd => k_is)
    (case po => k_is)
    (case sa => k_is)
    (case mk => k_is)
    (case kc => k_is)
    (case n1 => k_is)
    (case n2 => k_is)
    (case n3 => k_is)
    (case n4 => k_is)
    (case ty => k_is)
    (case rd => k_is)
    (case ga => k_is)
    (case fm => k_is)
    (case gL => k_is)
    (case gD => k_is)
    (case gN => k_is)
    (case z_len => k_is)
    (case z_range => k_is)
    (case z_divmod => k_is)
    (case z_int => k_is)
    (case z_str => k_is)
    (case z_min => k_is)
    (case z_max => k_is)
    (case z_abs => k_is)
    (case z_list => k_is)
    (case z_tuple => k_is)
    (case z_all => k_is)
    (case z_dict => k_is)
    (case z_sorted => k_is)
    (case z_repr => k_is)
    (case z_enumerate => k_is)
    (case z_isinstance => k_is)
    (case z_sum => k_is)
end
