import PyProof.Rows.All
import Wide.All
import OpenK.AllK
import Wide.FinOn
import HandS.ForMost
import HandS.EndBits
import HandS.Wide
import HandS.Rev
import HandS.Zip
import HandS.Conv
import HandS.IsInst
import HandS.TupMul
import HandS.TupAny
import HandS.SortInts
import HandS.Style
import PyProof.ReprRoads
import KE.GoesEnum
import KE.GoesZip
import KE.KDictZip
import HandS.SortRule
import HandS.More
import HandS.NoneIn
import HandS.Deep
import PyProof.NeKinds
import PyProof.FactsAll.dict_2
import PyProof.FactsAll.subtypes_3
import KE.KTupSum
import HandS.Flow
import HandS.RevRange
import HandS.TupLe
import HandS.DictComp
import PyProof.Rows.ReprOcc
import PySem.Challenge.RW_toldpieces_k44_own_layings_told
set_option Elab.async false
set_option linter.all false
set_option maxRecDepth 100000
set_option maxHeartbeats 4000000
/-! Sm: Python's data without a heap: what an expression or statement gives, as a plain function; that the layer's readings hold by it. -/
namespace Sm
open PySem PySem.Spec PyProof.Rows L2

/-- a thing as the plain side sees it: data that nobody changes, or a list that somebody may change -/
inductive SV where
  | dat (d : PyData)
  | cel (i : Nat)
abbrev Mem := List (Option (List SV))
abbrev Rho := List (Option SV)

def kD : Key → PyData
  | .inl i => .int i
  | .inr x => .str x

mutual
inductive Dq (K : PySem.W.Frag) (G : Hp) : V → PyData → Prop
  | non : Dq K G .non .none
  | bl (b : Bool) : Dq K G (.bl b) (.bool b)
  | int (i : Int) : Dq K G (.int i) (.int i)
  | str (x : Str) : Dq K G (.str x) (.str x)
  | lst {a : Addr} {xs : List V} {ds : List PyData} : SqL K G a xs → DqAll K G xs ds → Dq K G (.ref a) (.list ds)
  | tup {a : Addr} {xs : List V} {ds : List PyData} : SqT K G a xs → DqAll K G xs ds → Dq K G (.ref a) (.tuple ds)
  | dic {a : Addr} {o : Obj} {kvs : List (Key × V)} {ds : List (PyData × PyData)} : G a = some (.frz o (.dK kvs)) → DqKv K G kvs ds → Dq K G (.ref a) (.dict ds)
inductive DqAll (K : PySem.W.Frag) (G : Hp) : List V → List PyData → Prop
  | nil : DqAll K G [] []
  | cons {v : V} {vs : List V} {d : PyData} {ds : List PyData} : Dq K G v d → DqAll K G vs ds → DqAll K G (v :: vs) (d :: ds)
inductive DqKv (K : PySem.W.Frag) (G : Hp) : List (Key × V) → List (PyData × PyData) → Prop
  | nil : DqKv K G [] []
  | cons {k : Key} {v : V} {vs : List (Key × V)} {d : PyData} {ds : List (PyData × PyData)} : Dq K G v d → DqKv K G vs ds → DqKv K G ((k, v) :: vs) ((kD k, d) :: ds)
end

theorem same_sqT {K : PySem.W.Frag} {H H' : Hp} {a : Addr} {xs : List V} (e : Same H H') (h : SqT K H a xs) : SqT K H' a xs := by
  rcases h with (h | ⟨o, h⟩) | h
  · exact .inl (.inl (e _ _ h))
  · exact .inl (.inr ⟨o, e _ _ h⟩)
  · exact .inr h
theorem same_rd {H H' : Hp} {a : Addr} {u : HO} (e : Same H H') (h : Rd H a u) : Rd H' a u := by
  rcases h with h | ⟨o, h⟩
  · exact .inl (e _ _ h)
  · exact .inr ⟨o, e _ _ h⟩
section
variable {K : PySem.W.Frag} {G G' : Hp}
mutual
theorem Dq.mono (e : Same G G') : ∀ {v : V} {d : PyData}, Dq K G v d → Dq K G' v d
  | _, _, .non => .non
  | _, _, .bl b => .bl b
  | _, _, .int i => .int i
  | _, _, .str x => .str x
  | _, _, .lst h r => .lst (e.seq h) (DqAll.mono e r)
  | _, _, .tup h r => .tup (same_sqT e h) (DqAll.mono e r)
  | _, _, .dic h r => .dic (e _ _ h) (DqKv.mono e r)
theorem DqAll.mono (e : Same G G') : ∀ {v : List V} {d : List PyData}, DqAll K G v d → DqAll K G' v d
  | _, _, .nil => .nil
  | _, _, .cons h r => .cons (Dq.mono e h) (DqAll.mono e r)
theorem DqKv.mono (e : Same G G') : ∀ {v : List (Key × V)} {d : List (PyData × PyData)}, DqKv K G v d → DqKv K G' v d
  | _, _, .nil => .nil
  | _, _, .cons h r => .cons (Dq.mono e h) (DqKv.mono e r)
end
theorem DqAll.length : ∀ {v : List V} {d : List PyData}, DqAll K G v d → v.length = d.length
  | _, _, .nil => rfl
  | _, _, .cons _ r => by rw [List.length_cons, List.length_cons, r.length]
theorem DqAll.get : ∀ {v : List V} {d : List PyData} {i : Nat} {x : V}, DqAll K G v d → v[i]? = some x → ∃ y, d[i]? = some y ∧ Dq K G x y
  | _, _, _, _, .nil, h => by simp at h
  | _, _, 0, _, .cons h _, e => by simp at e; subst e; exact ⟨_, rfl, h⟩
  | _, _, i + 1, _, .cons _ r, e => by
    obtain ⟨y, h1, h2⟩ := r.get (i := i) (by simpa using e)
    exact ⟨y, by simpa using h1, h2⟩
theorem DqAll.get' : ∀ {v : List V} {d : List PyData} {i : Nat} {y : PyData}, DqAll K G v d → d[i]? = some y → ∃ x, v[i]? = some x ∧ Dq K G x y
  | _, _, _, _, .nil, h => by simp at h
  | _, _, 0, _, .cons h _, e => by simp at e; subst e; exact ⟨_, rfl, h⟩
  | _, _, i + 1, _, .cons _ r, e => by
    obtain ⟨y, h1, h2⟩ := r.get' (i := i) (by simpa using e)
    exact ⟨y, by simpa using h1, h2⟩
theorem DqAll.append : ∀ {v w : List V} {d e : List PyData}, DqAll K G v d → DqAll K G w e → DqAll K G (v ++ w) (d ++ e)
  | _, _, _, _, .nil, h => h
  | _, _, _, _, .cons h r, s => .cons h (r.append s)
theorem DqAll.take : ∀ {v : List V} {d : List PyData} (n : Nat), DqAll K G v d → DqAll K G (v.take n) (d.take n)
  | _, _, 0, _ => .nil
  | _, _, _ + 1, .nil => .nil
  | _, _, n + 1, .cons h r => .cons h (r.take n)
theorem DqAll.drop : ∀ {v : List V} {d : List PyData} (n : Nat), DqAll K G v d → DqAll K G (v.drop n) (d.drop n)
  | _, _, 0, r => r
  | _, _, _ + 1, .nil => .nil
  | _, _, n + 1, .cons _ r => r.drop n
theorem DqAll.reverse : ∀ {v : List V} {d : List PyData}, DqAll K G v d → DqAll K G v.reverse d.reverse
  | _, _, .nil => .nil
  | _, _, .cons h r => by rw [List.reverse_cons, List.reverse_cons]; exact r.reverse.append (.cons h .nil)
theorem DqAll.flat : ∀ (n : Nat) {v : List V} {d : List PyData}, DqAll K G v d → DqAll K G (List.replicate n v).flatten (List.replicate n d).flatten
  | 0, _, _, _ => .nil
  | n + 1, _, _, h => by
    rw [List.replicate_succ, List.replicate_succ, List.flatten_cons, List.flatten_cons]
    exact h.append (DqAll.flat n h)
end

inductive Sv (K : PySem.W.Frag) (π : List Addr) (G : Hp) : SV → V → Prop
  | dat {d : PyData} {v : V} : Dq K G v d → Sv K π G (.dat d) v
  | cel {i : Nat} {a : Addr} : π[i]? = some a → Sv K π G (.cel i) (.ref a)
inductive Svs (K : PySem.W.Frag) (π : List Addr) (G : Hp) : List SV → List V → Prop
  | nil : Svs K π G [] []
  | cons {s : SV} {v : V} {ss : List SV} {vs : List V} : Sv K π G s v → Svs K π G ss vs → Svs K π G (s :: ss) (v :: vs)
inductive Slots (K : PySem.W.Frag) (π : List Addr) (G : Hp) : Rho → L2.St → Prop
  | nil : Slots K π G [] []
  | skip {v : Option V} {ρ : Rho} {σ : L2.St} : Slots K π G ρ σ → Slots K π G (none :: ρ) (v :: σ)
  | hold {s : SV} {x : V} {ρ : Rho} {σ : L2.St} : Sv K π G s x → Slots K π G ρ σ → Slots K π G (some s :: ρ) (some x :: σ)
section
variable {K : PySem.W.Frag} {π more : List Addr} {G G' : Hp}
theorem ix_app {i : Nat} {a : Addr} (h : π[i]? = some a) : (π ++ more)[i]? = some a := by
  obtain ⟨hi, e⟩ := List.getElem?_eq_some_iff.mp h
  rw [List.getElem?_append_left hi]
  exact h
theorem Sv.mono (e : Same G G') : ∀ {s : SV} {v : V}, Sv K π G s v → Sv K (π ++ more) G' s v
  | _, _, .dat h => .dat (h.mono e)
  | _, _, .cel h => .cel (ix_app h)
theorem Svs.mono (e : Same G G') : ∀ {s : List SV} {v : List V}, Svs K π G s v → Svs K (π ++ more) G' s v
  | _, _, .nil => .nil
  | _, _, .cons h r => .cons (h.mono e) (r.mono e)
theorem Slots.mono (e : Same G G') : ∀ {s : Rho} {v : L2.St}, Slots K π G s v → Slots K (π ++ more) G' s v
  | _, _, .nil => .nil
  | _, _, .skip r => .skip (r.mono e)
  | _, _, .hold h r => .hold (h.mono e) (r.mono e)
theorem Sv.mono0 (e : Same G G') {s : SV} {v : V} (h : Sv K π G s v) : Sv K π G' s v := by
  have := Sv.mono (more := []) e h
  rwa [List.append_nil] at this
theorem Svs.mono0 (e : Same G G') {s : List SV} {v : List V} (h : Svs K π G s v) : Svs K π G' s v := by
  have := Svs.mono (more := []) e h
  rwa [List.append_nil] at this
theorem Slots.mono0 (e : Same G G') {s : Rho} {v : L2.St} (h : Slots K π G s v) : Slots K π G' s v := by
  have := Slots.mono (more := []) e h
  rwa [List.append_nil] at this
theorem Svs.length : ∀ {s : List SV} {v : List V}, Svs K π G s v → s.length = v.length
  | _, _, .nil => rfl
  | _, _, .cons _ r => by rw [List.length_cons, List.length_cons, r.length]
theorem Svs.get : ∀ {s : List SV} {v : List V} {i : Nat} {x : SV}, Svs K π G s v → s[i]? = some x → ∃ y, v[i]? = some y ∧ Sv K π G x y
  | _, _, _, _, .nil, h => by simp at h
  | _, _, 0, _, .cons h _, e => by simp at e; subst e; exact ⟨_, rfl, h⟩
  | _, _, i + 1, _, .cons _ r, e => by
    obtain ⟨y, h1, h2⟩ := r.get (i := i) (by simpa using e)
    exact ⟨y, by simpa using h1, h2⟩
theorem Svs.refs : ∀ {s : List SV} {v : List V} {j : Nat}, Svs K π G s v → SV.cel j ∈ s → j < π.length
  | _, _, _, .nil, h => by cases h
  | _, _, _, .cons h r, m => by
    rcases List.mem_cons.mp m with e | e
    · subst e
      cases h with
      | cel h => exact (List.getElem?_eq_some_iff.mp h).1
    · exact r.refs e
theorem Svs.append : ∀ {s t : List SV} {v w : List V}, Svs K π G s v → Svs K π G t w → Svs K π G (s ++ t) (v ++ w)
  | _, _, _, _, .nil, h => h
  | _, _, _, _, .cons h r, s => .cons h (r.append s)
theorem Svs.set {x : SV} {y : V} (h : Sv K π G x y) : ∀ {s : List SV} {v : List V} (i : Nat), Svs K π G s v → Svs K π G (s.set i x) (v.set i y)
  | _, _, _, .nil => .nil
  | _, _, 0, .cons _ r => .cons h r
  | _, _, i + 1, .cons q r => .cons q (r.set h i)
theorem Svs.ofD : ∀ {d : List PyData} {v : List V}, DqAll K G v d → Svs K π G (d.map SV.dat) v
  | _, _, .nil => .nil
  | _, _, .cons h r => .cons (.dat h) (Svs.ofD r)
theorem Slots.length : ∀ {s : Rho} {v : L2.St}, Slots K π G s v → s.length = v.length
  | _, _, .nil => rfl
  | _, _, .skip r => by rw [List.length_cons, List.length_cons, r.length]
  | _, _, .hold _ r => by rw [List.length_cons, List.length_cons, r.length]
theorem Slots.get : ∀ {ρ : Rho} {σ : L2.St} {i : Nat} {x : SV}, Slots K π G ρ σ → ρ[i]? = some (some x) → ∃ y, σ[i]? = some (some y) ∧ Sv K π G x y
  | _, _, _, _, .nil, h => by simp at h
  | _, _, 0, _, .skip _, e => by simp at e
  | _, _, 0, _, .hold h _, e => by simp at e; subst e; exact ⟨_, rfl, h⟩
  | _, _, i + 1, _, .skip r, e => by
    obtain ⟨y, h1, h2⟩ := r.get (i := i) (by simpa using e)
    exact ⟨y, by simpa using h1, h2⟩
  | _, _, i + 1, _, .hold _ r, e => by
    obtain ⟨y, h1, h2⟩ := r.get (i := i) (by simpa using e)
    exact ⟨y, by simpa using h1, h2⟩
theorem Slots.set {x : SV} {y : V} (h : Sv K π G x y) : ∀ {ρ : Rho} {σ : L2.St} (i : Nat), Slots K π G ρ σ → Slots K π G (ρ.set i (some x)) (σ.set i (some y))
  | _, _, _, .nil => .nil
  | _, _, 0, .skip r => .hold h r
  | _, _, 0, .hold _ r => .hold h r
  | _, _, i + 1, .skip r => .skip (r.set h i)
  | _, _, i + 1, .hold q r => .hold q (r.set h i)
theorem Slots.unset : ∀ {ρ : Rho} {σ : L2.St} (i : Nat), Slots K π G ρ σ → Slots K π G (ρ.set i none) (σ.set i none)
  | _, _, _, .nil => .nil
  | _, _, 0, .skip r => .skip r
  | _, _, 0, .hold _ r => .skip r
  | _, _, i + 1, .skip r => .skip (r.unset i)
  | _, _, i + 1, .hold q r => .hold q (r.unset i)
def wipeR (ρ : Rho) : List Nat → Rho
  | [] => ρ
  | v :: vs => (wipeR ρ vs).set v none
theorem Slots.wiped {ρ : Rho} {σ : L2.St} (h : Slots K π G ρ σ) : ∀ vs : List Nat, Slots K π G (wipeR ρ vs) (wipe σ vs)
  | [] => h
  | v :: vs => by
    show Slots K π G ((wipeR ρ vs).set v none) ((wipe σ vs).set v none)
    exact (h.wiped vs).unset v
end
theorem set_none_comm (σ : L2.St) (i j : Nat) (x y : Option V) (h : i ≠ j) : (σ.set i x).set j y = (σ.set j y).set i x := List.set_comm x y h
theorem wipe_set {σ : L2.St} {i : Nat} {y : Option V} : ∀ {vs : List Nat}, i ∈ vs → wipe (σ.set i y) vs = wipe σ vs
  | [], h => by cases h
  | v :: vs, h => by
    show (wipe (σ.set i y) vs).set v none = (wipe σ vs).set v none
    by_cases hv : i ∈ vs
    · rw [wipe_set hv]
    · rcases List.mem_cons.mp h with e | e
      · subst e
        have key : ∀ (ws : List Nat), i ∉ ws → wipe (σ.set i y) ws = (wipe σ ws).set i y := by
          intro ws
          induction ws with
          | nil => intro _; rfl
          | cons w ws ih =>
            intro hw
            show (wipe (σ.set i y) ws).set w none = ((wipe σ ws).set w none).set i y
            rw [ih (fun q => hw (List.mem_cons_of_mem _ q)), List.set_comm]
            intro e; exact hw (e ▸ List.mem_cons_self)
        rw [key vs hv, List.set_set]
      · exact absurd e hv
theorem wipe_wipe (σ : L2.St) : ∀ vs ws : List Nat, (∀ v ∈ vs, v ∈ ws) → wipe (wipe σ vs) ws = wipe σ ws
  | [], _, _ => rfl
  | v :: vs, ws, h => by
    show wipe ((wipe σ vs).set v none) ws = wipe σ ws
    rw [wipe_set (h v List.mem_cons_self), wipe_wipe σ vs ws (fun u hu => h u (List.mem_cons_of_mem _ hu))]

/-- the plain side and the heap: F what others hold, G what nobody changes, M what may change -/
structure Rel (K : PySem.W.Frag) (F : Hp) (π : List Addr) (G H : Hp) (M : Mem) : Prop where
  ex : Same G H
  fr : ∀ a o, F a = some o → H a = some o ∧ G a = none
  len : π.length = M.length
  mem : ∀ (i : Nat) (xs : List SV), M[i]? = some (some xs) → ∃ a vs, π[i]? = some a ∧ F a = none ∧ G a = none ∧ H a = some (.lst vs) ∧ Svs K π G xs vs
  inj : ∀ (i j : Nat) (xs ys : List SV) (a : Addr), M[i]? = some (some xs) → M[j]? = some (some ys) → π[i]? = some a → π[j]? = some a → i = j
  wf : ∀ (i : Nat) (xs : List SV), M[i]? = some (some xs) → ∀ j : Nat, SV.cel j ∈ xs → j < i

/-- at most one new object, that nobody changes -/
inductive Al (G H : Hp) : Hp → Hp → Prop
  | same : Al G H G H
  | new {p : Addr} {o : HO} : H p = none → Al G H (upd G p o) (upd H p o)
theorem same_upd {H : Hp} {p : Addr} {o : HO} (h : H p = none) : Same H (upd H p o) := fun b x e => by
  rw [upd_ne (ne_of_none e h)]
  exact e
theorem none_of_same {G H : Hp} {p : Addr} (e : Same G H) (h : H p = none) : G p = none := Same.free e h
section
variable {K : PySem.W.Frag} {F : Hp} {π : List Addr} {G H G' H' : Hp} {M : Mem}
theorem Rel.alSame (r : Rel K F π G H M) (a : Al G H G' H') : Same G G' := by
  cases a with
  | same => exact Same.refl G
  | new h => exact same_upd (none_of_same r.ex h)
theorem Rel.al (r : Rel K F π G H M) (a : Al G H G' H') : Rel K F π G' H' M := by
  cases a with
  | same => exact r
  | @new p o h =>
    have hg : G p = none := none_of_same r.ex h
    refine ⟨fun b x e => ?_, fun b x e => ?_, r.len, fun i xs e => ?_, r.inj, r.wf⟩
    · by_cases hb : b = p
      · subst hb; rw [upd_same] at e ⊢; exact e
      · rw [upd_ne hb] at e ⊢; exact r.ex _ _ e
    · obtain ⟨h1, h2⟩ := r.fr b x e
      have hb : b ≠ p := ne_of_none h1 h
      rw [upd_ne hb, upd_ne hb]; exact ⟨h1, h2⟩
    · obtain ⟨a, vs, h1, h2, h3, h4, h5⟩ := r.mem i xs e
      have hb : a ≠ p := ne_of_none h4 h
      refine ⟨a, vs, h1, h2, ?_, ?_, h5.mono0 (same_upd hg)⟩
      · rw [upd_ne hb]; exact h3
      · rw [upd_ne hb]; exact h4
/-- a new list that may change -/
theorem Rel.push (r : Rel K F π G H M) {p : Addr} {xs : List SV} {vs : List V} (h : H p = none) (s : Svs K π G xs vs) : Rel K F (π ++ [p]) G (upd H p (.lst vs)) (M ++ [some xs]) := by
  have hg : G p = none := none_of_same r.ex h
  have hf : F p = none := by
    cases q : F p with
    | none => rfl
    | some o => rw [(r.fr p o q).1] at h; cases h
  have old : ∀ (i : Nat) (ys : List SV), (M ++ [some xs])[i]? = some (some ys) → (i < M.length ∧ M[i]? = some (some ys)) ∨ (i = M.length ∧ ys = xs) := by
    intro i ys e
    by_cases hi : i < M.length
    · rw [List.getElem?_append_left hi] at e; exact .inl ⟨hi, e⟩
    · rw [List.getElem?_append_right (by omega)] at e
      have hz : i - M.length = 0 := by
        by_cases hz : i - M.length = 0
        · exact hz
        · rw [List.getElem?_eq_none (by simp; omega)] at e; cases e
      rw [hz] at e
      simp at e
      exact .inr ⟨by omega, e.symm⟩
  have at1 : (π ++ [p])[M.length]? = some p := by
    rw [List.getElem?_append_right (by rw [r.len]; exact Nat.le_refl _), r.len, Nat.sub_self]; rfl
  refine ⟨fun b x e => ?_, fun b x e => ?_, by simp [r.len], fun i ys e => ?_, fun i j ys zs a e1 e2 e3 e4 => ?_, fun i ys e j hj => ?_⟩
  · have hb : b ≠ p := fun z => by rw [z, hg] at e; cases e
    rw [upd_ne hb]; exact r.ex _ _ e
  · obtain ⟨h1, h2⟩ := r.fr b x e
    have hb : b ≠ p := ne_of_none h1 h
    rw [upd_ne hb]; exact ⟨h1, h2⟩
  · rcases old i ys e with ⟨hi, e⟩ | ⟨hi, e⟩
    · obtain ⟨a, vs', h1, h2, h3, h4, h5⟩ := r.mem i ys e
      have hb : a ≠ p := ne_of_none h4 h
      exact ⟨a, vs', ix_app h1, h2, h3, by rw [upd_ne hb]; exact h4, h5.mono (Same.refl G)⟩
    · subst e; subst hi
      exact ⟨p, vs, at1, hf, hg, upd_same, s.mono (Same.refl G)⟩
  · have ne : ∀ (i : Nat) (ys : List SV), M[i]? = some (some ys) → (π ++ [p])[i]? = some a → a ≠ p := by
      intro i ys e q
      obtain ⟨b, _, h1, _, _, h4, _⟩ := r.mem i ys e
      have : (π ++ [p])[i]? = some b := ix_app h1
      rw [this] at q; cases q
      exact ne_of_none h4 h
    rcases old i ys e1 with ⟨hi, e1⟩ | ⟨hi, e1⟩ <;> rcases old j zs e2 with ⟨hj, e2⟩ | ⟨hj, e2⟩
    · rw [List.getElem?_append_left (by rw [r.len]; exact hi)] at e3
      rw [List.getElem?_append_left (by rw [r.len]; exact hj)] at e4
      exact r.inj i j ys zs a e1 e2 e3 e4
    · subst hj
      rw [at1] at e4; cases e4
      exact absurd rfl (ne i ys e1 e3)
    · subst hi
      rw [at1] at e3; cases e3
      exact absurd rfl (ne j zs e2 e4)
    · omega
  · rcases old i ys e with ⟨hi, e⟩ | ⟨hi, e⟩
    · exact r.wf i ys e j hj
    · subst e; subst hi
      have := s.refs hj
      rw [r.len] at this
      exact this
/-- a list is changed -/
theorem Rel.write (r : Rel K F π G H M) {i : Nat} {a : Addr} {xs ys : List SV} {vs : List V} (hi : M[i]? = some (some xs)) (ha : π[i]? = some a) (s : Svs K π G ys vs) (hw : ∀ j : Nat, SV.cel j ∈ ys → SV.cel j ∈ xs) : Rel K F π G (upd H a (.lst vs)) (M.set i (some ys)) := by
  obtain ⟨a', vs', h1, h2, h3, h4, h5⟩ := r.mem i xs hi
  rw [ha] at h1; cases h1
  have hlt : i < M.length := (List.getElem?_eq_some_iff.mp hi).1
  have old : ∀ (j : Nat) (zs : List SV), (M.set i (some ys))[j]? = some (some zs) → (j = i ∧ zs = ys) ∨ (j ≠ i ∧ M[j]? = some (some zs)) := by
    intro j zs e
    by_cases hj : j = i
    · subst hj
      rw [List.getElem?_set_self hlt] at e
      exact .inl ⟨rfl, by cases e; rfl⟩
    · rw [List.getElem?_set_ne (Ne.symm hj)] at e; exact .inr ⟨hj, e⟩
  have was : ∀ (j : Nat) (zs : List SV), (M.set i (some ys))[j]? = some (some zs) → ∃ zs', M[j]? = some (some zs') := by
    intro j zs e
    rcases old j zs e with ⟨rfl, _⟩ | ⟨_, e⟩
    · exact ⟨_, hi⟩
    · exact ⟨_, e⟩
  refine ⟨fun b x e => ?_, fun b x e => ?_, by rw [List.length_set]; exact r.len, fun j zs e => ?_, fun j k zs ws b e1 e2 e3 e4 => ?_, fun j zs e k hk => ?_⟩
  · have hb : b ≠ a := fun z => by rw [z, h3] at e; cases e
    rw [upd_ne hb]; exact r.ex _ _ e
  · obtain ⟨q1, q2⟩ := r.fr b x e
    have hb : b ≠ a := fun z => by rw [z, h2] at e; cases e
    rw [upd_ne hb]; exact ⟨q1, q2⟩
  · rcases old j zs e with ⟨rfl, rfl⟩ | ⟨hj, e⟩
    · exact ⟨a, vs, ha, h2, h3, upd_same, s⟩
    · obtain ⟨b, ws, q1, q2, q3, q4, q5⟩ := r.mem j zs e
      have hb : b ≠ a := fun z => hj (r.inj j i zs xs a e hi (z ▸ q1) ha)
      exact ⟨b, ws, q1, q2, q3, by rw [upd_ne hb]; exact q4, q5⟩
  · obtain ⟨_, f1⟩ := was j zs e1
    obtain ⟨_, f2⟩ := was k ws e2
    exact r.inj j k _ _ b f1 f2 e3 e4
  · rcases old j zs e with ⟨rfl, rfl⟩ | ⟨_, e⟩
    · exact r.wf j xs hi k (hw k hk)
    · exact r.wf j zs e k hk
/-- a list that will not change any more -/
theorem Rel.freeze (r : Rel K F π G H M) {i : Nat} {a : Addr} {xs : List SV} {vs : List V} (hi : M[i]? = some (some xs)) (ha : π[i]? = some a) (hH : H a = some (.lst vs)) : Rel K F π (upd G a (.lst vs)) H (M.set i none) ∧ Same G (upd G a (.lst vs)) := by
  obtain ⟨a', vs', h1, h2, h3, h4, h5⟩ := r.mem i xs hi
  rw [ha] at h1; cases h1
  have hlt : i < M.length := (List.getElem?_eq_some_iff.mp hi).1
  have old : ∀ (j : Nat) (zs : List SV), (M.set i none)[j]? = some (some zs) → j ≠ i ∧ M[j]? = some (some zs) := by
    intro j zs e
    by_cases hj : j = i
    · subst hj
      rw [List.getElem?_set_self hlt] at e; cases e
    · rw [List.getElem?_set_ne (Ne.symm hj)] at e; exact ⟨hj, e⟩
  have sg : Same G (upd G a (.lst vs)) := same_upd h3
  refine ⟨⟨fun b x e => ?_, fun b x e => ?_, by rw [List.length_set]; exact r.len, fun j zs e => ?_, fun j k zs ws b e1 e2 e3 e4 => ?_, fun j zs e => r.wf j zs (old j zs e).2⟩, sg⟩
  · by_cases hb : b = a
    · subst hb; rw [upd_same] at e; cases e; exact hH
    · rw [upd_ne hb] at e; exact r.ex _ _ e
  · obtain ⟨q1, q2⟩ := r.fr b x e
    have hb : b ≠ a := fun z => by rw [z, h2] at e; cases e
    rw [upd_ne hb]; exact ⟨q1, q2⟩
  · obtain ⟨hj, e⟩ := old j zs e
    obtain ⟨b, ws, q1, q2, q3, q4, q5⟩ := r.mem j zs e
    have hb : b ≠ a := fun z => hj (r.inj j i zs xs a e hi (z ▸ q1) ha)
    exact ⟨b, ws, q1, q2, by rw [upd_ne hb]; exact q3, q4, q5.mono0 sg⟩
  · exact r.inj j k _ _ b (old j zs e1).2 (old k ws e2).2 e3 e4
/-- a callee's own lists are forgotten -/
theorem Rel.cut {more : List Addr} (r : Rel K F (π ++ more) G H M) : Rel K F π G H (M.take π.length) := by
  have old : ∀ (j : Nat) (zs : List SV), (M.take π.length)[j]? = some (some zs) → j < π.length ∧ M[j]? = some (some zs) := by
    intro j zs e
    rw [List.getElem?_take] at e
    split at e
    · rename_i h; exact ⟨h, e⟩
    · cases e
  have at1 : ∀ {j : Nat} {a : Addr}, j < π.length → (π ++ more)[j]? = some a → π[j]? = some a := by
    intro j a hj e
    rw [List.getElem?_append_left hj] at e; exact e
  refine ⟨r.ex, r.fr, ?_, fun j zs e => ?_, fun j k zs ws b e1 e2 e3 e4 => ?_, fun j zs e => r.wf j zs (old j zs e).2⟩
  · have := r.len
    rw [List.length_append] at this
    rw [List.length_take]; omega
  · obtain ⟨hj, e'⟩ := old j zs e
    obtain ⟨b, ws, q1, q2, q3, q4, q5⟩ := r.mem j zs e'
    refine ⟨b, ws, at1 hj q1, q2, q3, q4, ?_⟩
    have hz : ∀ k : Nat, SV.cel k ∈ zs → k < π.length := fun k hk => Nat.lt_trans (r.wf j zs e' k hk) hj
    clear e e' q4
    induction q5 with
    | nil => exact .nil
    | cons h _ ih =>
      refine .cons ?_ (ih (fun k hk => hz k (List.mem_cons_of_mem _ hk)))
      cases h with
      | dat h => exact .dat h
      | cel h => exact .cel (at1 (hz _ List.mem_cons_self) h)
  · obtain ⟨hj, e1'⟩ := old j zs e1
    obtain ⟨hk, e2'⟩ := old k ws e2
    exact r.inj j k _ _ b e1' e2' (ix_app e3) (ix_app e4)
/-- a framed object -/
theorem Rel.frame (r : Rel K F π G H M) {p : Addr} {o : HO} (h : H p = none) : Rel K (upd F p o) π G (upd H p o) M := by
  have hg : G p = none := none_of_same r.ex h
  refine ⟨fun b x e => ?_, fun b x e => ?_, r.len, fun i xs e => ?_, r.inj, r.wf⟩
  · have hb : b ≠ p := fun z => by rw [z, hg] at e; cases e
    rw [upd_ne hb]; exact r.ex _ _ e
  · by_cases hb : b = p
    · subst hb; rw [upd_same] at e; cases e; exact ⟨upd_same, hg⟩
    · rw [upd_ne hb] at e
      rw [upd_ne hb]; exact r.fr _ _ e
  · obtain ⟨a, vs, h1, h2, h3, h4, h5⟩ := r.mem i xs e
    have hb : a ≠ p := ne_of_none h4 h
    exact ⟨a, vs, h1, by rw [upd_ne hb]; exact h2, h3, by rw [upd_ne hb]; exact h4, h5⟩
theorem Rel.framed (r : Rel K F π G H M) {p : Addr} {o o' : HO} (h : F p = some o) : Rel K (upd F p o') π G (upd H p o') M := by
  obtain ⟨_, hg⟩ := r.fr p o h
  refine ⟨fun b x e => ?_, fun b x e => ?_, r.len, fun i xs e => ?_, r.inj, r.wf⟩
  · have hb : b ≠ p := fun z => by rw [z, hg] at e; cases e
    rw [upd_ne hb]; exact r.ex _ _ e
  · by_cases hb : b = p
    · subst hb; rw [upd_same] at e; cases e; exact ⟨upd_same, hg⟩
    · rw [upd_ne hb] at e
      rw [upd_ne hb]; exact r.fr _ _ e
  · obtain ⟨a, vs, h1, h2, h3, h4, h5⟩ := r.mem i xs e
    have hb : a ≠ p := fun z => by rw [z, h] at h2; cases h2
    exact ⟨a, vs, h1, by rw [upd_ne hb]; exact h2, h3, by rw [upd_ne hb]; exact h4, h5⟩
theorem Rel.unframe {p : Addr} {o : HO} (r : Rel K (upd F p o) π G H M) (hF : F p = none) : Rel K F π (upd G p o) H M ∧ Same G (upd G p o) := by
  obtain ⟨hH, hg⟩ := r.fr p o upd_same
  have sg : Same G (upd G p o) := same_upd hg
  refine ⟨⟨fun b x e => ?_, fun b x e => ?_, r.len, fun i xs e => ?_, r.inj, r.wf⟩, sg⟩
  · by_cases hb : b = p
    · subst hb; rw [upd_same] at e; cases e; exact hH
    · rw [upd_ne hb] at e; exact r.ex _ _ e
  · have hb : b ≠ p := fun z => by rw [z, hF] at e; cases e
    rw [upd_ne hb]; exact r.fr _ _ (by rw [upd_ne hb]; exact e)
  · obtain ⟨a, vs, h1, h2, h3, h4, h5⟩ := r.mem i xs e
    have hb : a ≠ p := fun z => by rw [z, upd_same] at h2; cases h2
    rw [upd_ne hb] at h2
    exact ⟨a, vs, h1, h2, by rw [upd_ne hb]; exact h3, h4, h5.mono0 sg⟩
theorem Rel.frNone (r : Rel K F π G H M) {p : Addr} (h : H p = none) : F p = none := by
  cases q : F p with
  | none => rfl
  | some o => rw [(r.fr p o q).1] at h; cases h
end
end Sm

namespace Sm
open PySem PySem.Spec PyProof.Rows L2

abbrev SE := Rho → Mem → Option (SV × Mem)
abbrev SA := Rho → Mem → Option (List SV × Mem)
abbrev SB := Rho → Mem → Option (Bool × Mem)
abbrev SI := Rho → Mem → Option (List PyData × Mem)
abbrev SO := Rho → Mem → Option (Option Int × Mem)
abbrev SG := SV → Rho → Mem → Option (Rho × Mem)
abbrev SF := List SV → Mem → Option (SV × Mem)
inductive Ctl where
  | nx (ρ : Rho) (M : Mem)
  | rt (r : SV) (M : Mem)
  | bk (ρ : Rho) (M : Mem)
  | ct (ρ : Rho) (M : Mem)
abbrev SS := Rho → Mem → Option Ctl

/-- what was known stays known -/
structure Gr (π π' : List Addr) (G G' : Hp) : Prop where
  s : Same G G'
  p : ∃ more, π' = π ++ more
section
variable {K : PySem.W.Frag} {F : Hp} {π π' π'' : List Addr} {G H G' H' G'' : Hp} {M : Mem}
theorem Gr.refl : Gr π π G G := ⟨Same.refl G, [], (List.append_nil π).symm⟩
theorem Gr.trans (a : Gr π π' G G') (b : Gr π' π'' G' G'') : Gr π π'' G G'' := by
  obtain ⟨s, m, rfl⟩ := a
  obtain ⟨s', m', rfl⟩ := b
  exact ⟨s.trans s', m ++ m', by rw [List.append_assoc]⟩
theorem Gr.of (s : Same G G') : Gr π π G G' := ⟨s, [], (List.append_nil π).symm⟩
theorem Sv.gr (g : Gr π π' G G') {s : SV} {v : V} (h : Sv K π G s v) : Sv K π' G' s v := by
  obtain ⟨s, m, rfl⟩ := g; exact h.mono s
theorem Svs.gr (g : Gr π π' G G') {s : List SV} {v : List V} (h : Svs K π G s v) : Svs K π' G' s v := by
  obtain ⟨s, m, rfl⟩ := g; exact h.mono s
theorem Slots.gr (g : Gr π π' G G') {s : Rho} {v : L2.St} (h : Slots K π G s v) : Slots K π' G' s v := by
  obtain ⟨s, m, rfl⟩ := g; exact h.mono s
end

/-! ### a reading keeps to a plain function -/
def EvS (K : PySem.W.Frag) (t : TE) (e : SE) : Prop := ∀ ρ M r M', e ρ M = some (r, M') → ∀ F π G H σ, Rel K F π G H M → Slots K π G ρ σ →
  ∀ Q : VK, (∀ π' G' H' v, Gr π π' G G' → Rel K F π' G' H' M' → Sv K π' G' r v → Q v H') → t σ H Q
def EvA (K : PySem.W.Frag) (t : TA) (e : SA) : Prop := ∀ ρ M r M', e ρ M = some (r, M') → ∀ F π G H σ, Rel K F π G H M → Slots K π G ρ σ →
  ∀ Q : List V → Hp → Prop, (∀ π' G' H' v, Gr π π' G G' → Rel K F π' G' H' M' → Svs K π' G' r v → Q v H') → t σ H Q
def EvB (K : PySem.W.Frag) (t : TT) (e : SB) : Prop := ∀ ρ M r M', e ρ M = some (r, M') → ∀ F π G H σ, Rel K F π G H M → Slots K π G ρ σ →
  ∀ Q : Bool → Hp → Prop, (∀ π' G' H', Gr π π' G G' → Rel K F π' G' H' M' → Q r H') → t σ H Q
def EvO (K : PySem.W.Frag) (t : TO) (e : SO) : Prop := ∀ ρ M r M', e ρ M = some (r, M') → ∀ F π G H σ, Rel K F π G H M → Slots K π G ρ σ →
  ∀ Q : Option Int → Hp → Prop, (∀ π' G' H', Gr π π' G G' → Rel K F π' G' H' M' → Q r H') → t σ H Q
def EvG (K : PySem.W.Frag) (g : TG) (s : SG) : Prop := ∀ r ρ M ρ' M', s r ρ M = some (ρ', M') → ∀ F π G H v σ, Rel K F π G H M → Slots K π G ρ σ → Sv K π G r v →
  ∀ Q : L2.St → Hp → Prop, (∀ π' G' H' σ', Gr π π' G G' → Rel K F π' G' H' M' → Slots K π' G' ρ' σ' → Q σ' H') → g v σ H Q
/-- what an iterator gives -/
structure ItOk (K : PySem.W.Frag) (G : Hp) (J : It) (ds : List PyData) : Prop where
  go : ∀ i H, Same G H → i < ds.length → J.go i H
  stop : ∀ i H, Same G H → ds.length ≤ i → J.stop i H
  yld : ∀ i H x H' G2, Same G G2 → Same G2 H → J.yld i H x H' → i < ds.length → ∃ d G3, ds[i]? = some d ∧ Al G2 H G3 H' ∧ Dq K G3 x d
def EvI (K : PySem.W.Frag) (t : TI) (e : SI) : Prop := ∀ ρ M r M', e ρ M = some (r, M') → ∀ F π G H σ, Rel K F π G H M → Slots K π G ρ σ →
  ∀ R : It → Hp → Prop, (∀ π' G' H' J, Gr π π' G G' → Rel K F π' G' H' M' → ItOk K G' J r → R J H') → t σ H R
def EndOk (K : PySem.W.Frag) (F : Hp) (π : List Addr) (G : Hp) (D : Ends) : Ctl → Prop
  | .nx ρ M => ∀ π' G' H' σ', Gr π π' G G' → Rel K F π' G' H' M → Slots K π' G' ρ σ' → D.nx σ' H'
  | .rt r M => ∀ π' G' H' v, Gr π π' G G' → Rel K F π' G' H' M → Sv K π' G' r v → D.rt v H'
  | .bk ρ M => ∀ π' G' H' σ', Gr π π' G G' → Rel K F π' G' H' M → Slots K π' G' ρ σ' → D.bk σ' H'
  | .ct ρ M => ∀ π' G' H' σ', Gr π π' G G' → Rel K F π' G' H' M → Slots K π' G' ρ σ' → D.ct σ' H'
def EvT (K : PySem.W.Frag) (t : TS) (s : SS) : Prop := ∀ ρ M c, s ρ M = some c → ∀ F π G H σ, Rel K F π G H M → Slots K π G ρ σ → ∀ D, EndOk K F π G D c → t D σ H
theorem EndOk.gr {K : PySem.W.Frag} {F : Hp} {π π' : List Addr} {G G' : Hp} {D : Ends} (g : Gr π π' G G') : ∀ {c : Ctl}, EndOk K F π G D c → EndOk K F π' G' D c
  | .nx _ _, h => fun _ _ _ _ g' => h _ _ _ _ (g.trans g')
  | .rt _ _, h => fun _ _ _ _ g' => h _ _ _ _ (g.trans g')
  | .bk _ _, h => fun _ _ _ _ g' => h _ _ _ _ (g.trans g')
  | .ct _ _, h => fun _ _ _ _ g' => h _ _ _ _ (g.trans g')

/-- two values; one; a call on values -/
def OpS (K : PySem.W.Frag) (r : R2) (f : Mem → SV → SV → Option SV) : Prop := ∀ M x y z, f M x y = some z → ∀ F π G H v w, Rel K F π G H M → Sv K π G x v → Sv K π G y w →
  ∀ Q : VK, (∀ G' H' u, Al G H G' H' → Sv K π G' z u → Q u H') → r v w H Q
def UnS (K : PySem.W.Frag) (r : V → Hp → VK → Prop) (f : Mem → SV → Option SV) : Prop := ∀ M x z, f M x = some z → ∀ F π G H v, Rel K F π G H M → Sv K π G x v →
  ∀ Q : VK, (∀ G' H' u, Al G H G' H' → Sv K π G' z u → Q u H') → r v H Q
def CaS (K : PySem.W.Frag) (r : List V → Hp → VK → Prop) (f : Mem → List SV → Option SV) : Prop := ∀ M x z, f M x = some z → ∀ F π G H v, Rel K F π G H M → Svs K π G x v →
  ∀ Q : VK, (∀ G' H' u, Al G H G' H' → Sv K π G' z u → Q u H') → r v H Q
def SlS (K : PySem.W.Frag) (r : V → Option Int → Option Int → Hp → VK → Prop) (f : Mem → SV → Option Int → Option Int → Option SV) : Prop := ∀ M x l u z, f M x l u = some z → ∀ F π G H v, Rel K F π G H M → Sv K π G x v →
  ∀ Q : VK, (∀ G' H' u, Al G H G' H' → Sv K π G' z u → Q u H') → r v l u H Q

/-! ### the plain functions -/
def eVar (i : Nat) : SE := fun ρ M => match ρ[i]? with
  | some (some v) => some (v, M)
  | _ => none
def eC (d : PyData) : SE := fun _ M => some (.dat d, M)
def eOp (f : Mem → SV → SV → Option SV) (a b : SE) : SE := fun ρ M => (a ρ M).bind fun x => (b ρ x.2).bind fun y => (f y.2 x.1 y.1).bind fun z => some (z, y.2)
def eUn (f : Mem → SV → Option SV) (a : SE) : SE := fun ρ M => (a ρ M).bind fun x => (f x.2 x.1).bind fun z => some (z, x.2)
def eSl (f : Mem → SV → Option Int → Option Int → Option SV) (a : SE) (l u : SO) : SE := fun ρ M => (a ρ M).bind fun x => (l ρ x.2).bind fun y => (u ρ y.2).bind fun z => (f z.2 x.1 y.1 z.1).bind fun w => some (w, z.2)
def oNone : SO := fun _ M => some (none, M)
def oSome (a : SE) : SO := fun ρ M => (a ρ M).bind fun x => match x.1 with
  | .dat (.int i) => some (some i, x.2)
  | _ => none
def aNil : SA := fun _ M => some ([], M)
def aCons (a : SE) (as : SA) : SA := fun ρ M => (a ρ M).bind fun x => (as ρ x.2).bind fun xs => some (x.1 :: xs.1, xs.2)
def eCB (f : Mem → List SV → Option SV) (a : SA) : SE := fun ρ M => (a ρ M).bind fun x => (f x.2 x.1).bind fun z => some (z, x.2)
def eCall (f : SF) (a : SA) : SE := fun ρ M => (a ρ M).bind fun x => f x.1 x.2
/-- all of them data -/
def dats : List SV → Option (List PyData)
  | [] => some []
  | .dat d :: r => (dats r).bind fun ds => some (d :: ds)
  | _ :: _ => none
def eTup (a : SA) : SE := fun ρ M => (a ρ M).bind fun x => (dats x.1).bind fun ds => if ds.length ≤ 100000 then some (.dat (.tuple ds), x.2) else none
def eLst (a : SA) : SE := fun ρ M => (a ρ M).bind fun x => (dats x.1).bind fun ds => if ds.length ≤ 100000 then some (.dat (.list ds), x.2) else none
/-- a list that may change -/
def eNew (a : SA) : SE := fun ρ M => (a ρ M).bind fun x => if x.1.length ≤ 100000 then some (.cel x.2.length, x.2 ++ [some x.1]) else none
def bVal (a : SE) : SB := fun ρ M => (a ρ M).bind fun x => match x.1 with
  | .dat (.bool b) => some (b, x.2)
  | _ => none
def bAnd (a b : SB) : SB := fun ρ M => (a ρ M).bind fun x => if x.1 = true then b ρ x.2 else some (false, x.2)
def bOr (a b : SB) : SB := fun ρ M => (a ρ M).bind fun x => if x.1 = true then some (true, x.2) else b ρ x.2
def bNot (a : SB) : SB := fun ρ M => (a ρ M).bind fun x => some (!x.1, x.2)
def eAnd (a b : SE) : SE := fun ρ M => (a ρ M).bind fun x => match x.1 with
  | .dat (.bool c) => if c = true then b ρ x.2 else some (.dat (.bool false), x.2)
  | _ => none
def eOr (a b : SE) : SE := fun ρ M => (a ρ M).bind fun x => match x.1 with
  | .dat (.bool c) => if c = true then some (.dat (.bool true), x.2) else b ρ x.2
  | _ => none
def eNot (a : SE) : SE := fun ρ M => (a ρ M).bind fun x => match x.1 with
  | .dat (.bool c) => some (.dat (.bool (!c)), x.2)
  | _ => none
def eIf (c : SB) (a b : SE) : SE := fun ρ M => (c ρ M).bind fun x => if x.1 = true then a ρ x.2 else b ρ x.2
def eChain (f f' : Mem → SV → SV → Option SV) (a b c : SE) : SE := fun ρ M => (a ρ M).bind fun x => (b ρ x.2).bind fun y => (f y.2 x.1 y.1).bind fun z => match z with
  | .dat (.bool k) => if k = true then (c ρ y.2).bind fun w => (f' w.2 y.1 w.1).bind fun u => some (u, w.2) else some (.dat (.bool false), y.2)
  | _ => none

section
variable {K : PySem.W.Frag} {ta tb tc : TE} {a b c : SE}
theorem ev_var {i : Nat} : EvS K (tVar i) (eVar i) := by
  intro ρ M r M' h F π G H σ R S Q q
  unfold eVar at h
  split at h
  · rename_i v e
    cases h
    obtain ⟨y, h1, h2⟩ := S.get e
    exact ⟨y, h1, q π G H y Gr.refl R h2⟩
  · cases h
theorem ev_c {v : V} {d : PyData} (hd : ∀ G, Dq K G v d) : EvS K (tC v) (eC d) := by
  intro ρ M r M' h F π G H σ R S Q q
  cases h
  exact q π G H v Gr.refl R (.dat (hd G))
theorem ev_op {r : R2} {f : Mem → SV → SV → Option SV} (ha : EvS K ta a) (hb : EvS K tb b) (ho : OpS K r f) : EvS K (tOp r ta tb) (eOp f a b) := by
  intro ρ M z M' h F π G H σ R S Q q
  unfold eOp at h
  obtain ⟨⟨x, M1⟩, h1, h⟩ := Option.bind_eq_some_iff.mp h
  obtain ⟨⟨y, M2⟩, h2, h⟩ := Option.bind_eq_some_iff.mp h
  obtain ⟨z', h3, h⟩ := Option.bind_eq_some_iff.mp h
  cases h
  refine ha ρ M x M1 h1 F π G H σ R S _ fun π1 G1 H1 v1 g1 R1 s1 => ?_
  refine hb ρ M1 y M2 h2 F π1 G1 H1 σ R1 (S.gr g1) _ fun π2 G2 H2 v2 g2 R2 s2 => ?_
  exact ho M2 x y z h3 F π2 G2 H2 v1 v2 R2 (s1.gr g2) s2 Q fun G3 H3 u al s3 => q π2 G3 H3 u ((g1.trans g2).trans (.of (R2.alSame al))) (R2.al al) s3
theorem ev_un {r : V → Hp → VK → Prop} {f : Mem → SV → Option SV} (ha : EvS K ta a) (ho : UnS K r f) : EvS K (tUn r ta) (eUn f a) := by
  intro ρ M z M' h F π G H σ R S Q q
  unfold eUn at h
  obtain ⟨⟨x, M1⟩, h1, h⟩ := Option.bind_eq_some_iff.mp h
  obtain ⟨z', h3, h⟩ := Option.bind_eq_some_iff.mp h
  cases h
  refine ha ρ M x M1 h1 F π G H σ R S _ fun π1 G1 H1 v1 g1 R1 s1 => ?_
  exact ho M1 x z h3 F π1 G1 H1 v1 R1 s1 Q fun G3 H3 u al s3 => q π1 G3 H3 u (g1.trans (.of (R1.alSame al))) (R1.al al) s3
theorem ev_oNone : EvO K tNoPart oNone := by
  intro ρ M z M' h F π G H σ R S Q q
  cases h
  exact q π G H Gr.refl R
theorem ev_oSome (ha : EvS K ta a) : EvO K (tPart ta) (oSome a) := by
  intro ρ M z M' h F π G H σ R S Q q
  unfold oSome at h
  obtain ⟨⟨x, M1⟩, h1, h⟩ := Option.bind_eq_some_iff.mp h
  refine ha ρ M x M1 h1 F π G H σ R S _ fun π1 G1 H1 v1 g1 R1 s1 => ?_
  cases s1 with
  | dat hd =>
    cases hd with
    | int i =>
      cases h
      exact ⟨i, rfl, q π1 G1 H1 g1 R1⟩
    | _ => cases h
  | cel _ => cases h
theorem ev_sl {r : V → Option Int → Option Int → Hp → VK → Prop} {f : Mem → SV → Option Int → Option Int → Option SV} {tl tu : TO} {l u : SO} (ha : EvS K ta a) (hl : EvO K tl l) (hu : EvO K tu u) (ho : SlS K r f) : EvS K (tSl r ta tl tu) (eSl f a l u) := by
  intro ρ M z M' h F π G H σ R S Q q
  unfold eSl at h
  obtain ⟨⟨x, M1⟩, h1, h⟩ := Option.bind_eq_some_iff.mp h
  obtain ⟨⟨y, M2⟩, h2, h⟩ := Option.bind_eq_some_iff.mp h
  obtain ⟨⟨w, M3⟩, h3, h⟩ := Option.bind_eq_some_iff.mp h
  obtain ⟨z', h4, h⟩ := Option.bind_eq_some_iff.mp h
  cases h
  refine ha ρ M x M1 h1 F π G H σ R S _ fun π1 G1 H1 v1 g1 R1 s1 => ?_
  refine hl ρ M1 y M2 h2 F π1 G1 H1 σ R1 (S.gr g1) _ fun π2 G2 H2 g2 R2 => ?_
  refine hu ρ M2 w M3 h3 F π2 G2 H2 σ R2 (S.gr (g1.trans g2)) _ fun π3 G3 H3 g3 R3 => ?_
  exact ho M3 x y w z h4 F π3 G3 H3 v1 R3 (s1.gr (g2.trans g3)) Q fun G4 H4 u al s3 => q π3 G4 H4 u (((g1.trans g2).trans g3).trans (.of (R3.alSame al))) (R3.al al) s3
theorem ea_nil : EvA K tNil aNil := by
  intro ρ M z M' h F π G H σ R S Q q
  cases h
  exact q π G H [] Gr.refl R .nil
theorem ea_cons {t : TA} {as : SA} (ha : EvS K ta a) (hs : EvA K t as) : EvA K (tCons ta t) (aCons a as) := by
  intro ρ M z M' h F π G H σ R S Q q
  unfold aCons at h
  obtain ⟨⟨x, M1⟩, h1, h⟩ := Option.bind_eq_some_iff.mp h
  obtain ⟨⟨y, M2⟩, h2, h⟩ := Option.bind_eq_some_iff.mp h
  cases h
  refine ha ρ M x M1 h1 F π G H σ R S _ fun π1 G1 H1 v1 g1 R1 s1 => ?_
  refine hs ρ M1 y M2 h2 F π1 G1 H1 σ R1 (S.gr g1) _ fun π2 G2 H2 v2 g2 R2 s2 => ?_
  exact q π2 G2 H2 _ (g1.trans g2) R2 (.cons (s1.gr g2) s2)
theorem ev_cb {r : List V → Hp → VK → Prop} {f : Mem → List SV → Option SV} {t : TA} {as : SA} (hs : EvA K t as) (ho : CaS K r f) : EvS K (tCB r t) (eCB f as) := by
  intro ρ M z M' h F π G H σ R S Q q
  unfold eCB at h
  obtain ⟨⟨x, M1⟩, h1, h⟩ := Option.bind_eq_some_iff.mp h
  obtain ⟨z', h3, h⟩ := Option.bind_eq_some_iff.mp h
  cases h
  refine hs ρ M x M1 h1 F π G H σ R S _ fun π1 G1 H1 v1 g1 R1 s1 => ?_
  exact ho M1 x z h3 F π1 G1 H1 v1 R1 s1 Q fun G3 H3 u al s3 => q π1 G3 H3 u (g1.trans (.of (R1.alSame al))) (R1.al al) s3
theorem dats_all {π : List Addr} {G : Hp} : ∀ {xs : List SV} {ds : List PyData} {vs : List V}, dats xs = some ds → Svs K π G xs vs → DqAll K G vs ds
  | [], _, _, h, .nil => by cases h; exact .nil
  | .dat d :: r, ds, _, h, .cons s t => by
    unfold dats at h
    obtain ⟨es, h1, h⟩ := Option.bind_eq_some_iff.mp h
    cases h
    cases s with
    | dat hd => exact .cons hd (dats_all h1 t)
  | .cel _ :: _, _, _, h, _ => by simp [dats] at h
theorem sz {n : Nat} (h : n ≤ 100000) : n ≤ sizeLine := Nat.le_trans h (by decide)
theorem szl {n : Nat} (h : n < 100000) : n < sizeLine := Nat.lt_of_lt_of_le h (by decide)
theorem ev_tup {t : TA} {as : SA} (hs : EvA K t as) : EvS K (tTup t) (eTup as) := by
  intro ρ M z M' h F π G H σ R S Q q
  unfold eTup at h
  obtain ⟨⟨x, M1⟩, h1, h⟩ := Option.bind_eq_some_iff.mp h
  obtain ⟨ds, h2, h⟩ := Option.bind_eq_some_iff.mp h
  split at h
  · rename_i hz
    cases h
    refine hs ρ M x M1 h1 F π G H σ R S _ fun π1 G1 H1 v1 g1 R1 s1 => ?_
    have hd := dats_all h2 s1
    refine ⟨sz (by rw [hd.length]; exact hz), fun p hp => ?_⟩
    have al : Al G1 H1 (upd G1 p (.tup v1)) (upd H1 p (.tup v1)) := .new hp
    exact q π1 _ _ _ (g1.trans (.of (R1.alSame al))) (R1.al al) (.dat (.tup (SqT.of upd_same) (hd.mono (R1.alSame al))))
  · cases h
theorem ev_lst {t : TA} {as : SA} (hs : EvA K t as) : EvS K (tLst t) (eLst as) := by
  intro ρ M z M' h F π G H σ R S Q q
  unfold eLst at h
  obtain ⟨⟨x, M1⟩, h1, h⟩ := Option.bind_eq_some_iff.mp h
  obtain ⟨ds, h2, h⟩ := Option.bind_eq_some_iff.mp h
  split at h
  · rename_i hz
    cases h
    refine hs ρ M x M1 h1 F π G H σ R S _ fun π1 G1 H1 v1 g1 R1 s1 => ?_
    have hd := dats_all h2 s1
    refine ⟨sz (by rw [hd.length]; exact hz), fun p hp => ?_⟩
    have al : Al G1 H1 (upd G1 p (.lst v1)) (upd H1 p (.lst v1)) := .new hp
    exact q π1 _ _ _ (g1.trans (.of (R1.alSame al))) (R1.al al) (.dat (.lst (SqL.of upd_same) (hd.mono (R1.alSame al))))
  · cases h
theorem ev_new {t : TA} {as : SA} (hs : EvA K t as) : EvS K (tLst t) (eNew as) := by
  intro ρ M z M' h F π G H σ R S Q q
  unfold eNew at h
  obtain ⟨⟨x, M1⟩, h1, h⟩ := Option.bind_eq_some_iff.mp h
  split at h
  · rename_i hz
    cases h
    refine hs ρ M x M1 h1 F π G H σ R S _ fun π1 G1 H1 v1 g1 R1 s1 => ?_
    refine ⟨sz (by rw [← s1.length]; exact hz), fun p hp => ?_⟩
    refine q (π1 ++ [p]) G1 _ _ (g1.trans ⟨Same.refl G1, [p], rfl⟩) (R1.push hp s1) (.cel ?_)
    show (π1 ++ [p])[M1.length]? = some p
    rw [List.getElem?_append_right (by rw [R1.len]; exact Nat.le_refl _), R1.len, Nat.sub_self]; rfl
  · cases h
theorem eb_B (ha : EvS K ta a) : EvB K (tB ta) (bVal a) := by
  intro ρ M z M' h F π G H σ R S Q q
  unfold bVal at h
  obtain ⟨⟨x, M1⟩, h1, h⟩ := Option.bind_eq_some_iff.mp h
  refine ha ρ M x M1 h1 F π G H σ R S _ fun π1 G1 H1 v1 g1 R1 s1 => ?_
  cases s1 with
  | dat hd =>
    cases hd with
    | bl i =>
      cases h
      exact ⟨_, rfl, q π1 G1 H1 g1 R1⟩
    | _ => cases h
  | cel _ => cases h
theorem eb_test (ha : EvS K ta a) : EvB K (tTest ta) (bVal a) := eb_B ha
theorem eb_tru (ha : EvS K ta a) : EvB K (fun σ H Q => ta σ H fun x H' => ∃ k, TruV K x H' k ∧ Q k H') (bVal a) := by
  intro ρ M z M' h F π G H σ R S Q q
  unfold bVal at h
  obtain ⟨⟨x, M1⟩, h1, h⟩ := Option.bind_eq_some_iff.mp h
  refine ha ρ M x M1 h1 F π G H σ R S _ fun π1 G1 H1 v1 g1 R1 s1 => ?_
  cases s1 with
  | dat hd =>
    cases hd with
    | bl i =>
      cases h
      exact ⟨_, rfl, q π1 G1 H1 g1 R1⟩
    | _ => cases h
  | cel _ => cases h
theorem eb_and {tt tu : TT} {x y : SB} (ha : EvB K tt x) (hb : EvB K tu y) : EvB K (tAnd tt tu) (bAnd x y) := by
  intro ρ M z M' h F π G H σ R S Q q
  unfold bAnd at h
  obtain ⟨⟨v, M1⟩, h1, h⟩ := Option.bind_eq_some_iff.mp h
  refine ha ρ M v M1 h1 F π G H σ R S _ fun π1 G1 H1 g1 R1 => ?_
  cases v with
  | true =>
    rw [if_pos rfl]
    exact hb ρ M1 z M' h F π1 G1 H1 σ R1 (S.gr g1) _ fun π2 G2 H2 g2 R2 => q π2 G2 H2 (g1.trans g2) R2
  | false =>
    cases h
    rw [if_neg Bool.false_ne_true]
    exact q π1 G1 H1 g1 R1
theorem eb_or {tt tu : TT} {x y : SB} (ha : EvB K tt x) (hb : EvB K tu y) : EvB K (tOr tt tu) (bOr x y) := by
  intro ρ M z M' h F π G H σ R S Q q
  unfold bOr at h
  obtain ⟨⟨v, M1⟩, h1, h⟩ := Option.bind_eq_some_iff.mp h
  refine ha ρ M v M1 h1 F π G H σ R S _ fun π1 G1 H1 g1 R1 => ?_
  cases v with
  | false =>
    rw [if_neg Bool.false_ne_true]
    exact hb ρ M1 z M' h F π1 G1 H1 σ R1 (S.gr g1) _ fun π2 G2 H2 g2 R2 => q π2 G2 H2 (g1.trans g2) R2
  | true =>
    cases h
    rw [if_pos rfl]
    exact q π1 G1 H1 g1 R1
theorem eb_not {tt : TT} {x : SB} (ha : EvB K tt x) : EvB K (tNot tt) (bNot x) := by
  intro ρ M z M' h F π G H σ R S Q q
  unfold bNot at h
  obtain ⟨⟨v, M1⟩, h1, h⟩ := Option.bind_eq_some_iff.mp h
  cases h
  exact ha ρ M v _ h1 F π G H σ R S _ fun π1 G1 H1 g1 R1 => q π1 G1 H1 g1 R1
theorem ev_and (ha : EvS K ta a) (hb : EvS K tb b) : EvS K (tAndV ta tb) (eAnd a b) := by
  intro ρ M z M' h F π G H σ R S Q q
  unfold eAnd at h
  obtain ⟨⟨x, M1⟩, h1, h⟩ := Option.bind_eq_some_iff.mp h
  refine ha ρ M x M1 h1 F π G H σ R S _ fun π1 G1 H1 v1 g1 R1 s1 => ?_
  cases s1 with
  | dat hd =>
    cases hd with
    | bl i =>
      refine ⟨i, rfl, ?_⟩
      cases i with
      | true =>
        rw [if_pos rfl]
        exact hb ρ M1 z M' h F π1 G1 H1 σ R1 (S.gr g1) _ fun π2 G2 H2 v g2 R2 s2 => q π2 G2 H2 v (g1.trans g2) R2 s2
      | false =>
        rw [if_neg Bool.false_ne_true]
        cases h
        exact q π1 G1 H1 _ g1 R1 (.dat (.bl false))
    | _ => cases h
  | cel _ => cases h
theorem ev_or (ha : EvS K ta a) (hb : EvS K tb b) : EvS K (tOrV ta tb) (eOr a b) := by
  intro ρ M z M' h F π G H σ R S Q q
  unfold eOr at h
  obtain ⟨⟨x, M1⟩, h1, h⟩ := Option.bind_eq_some_iff.mp h
  refine ha ρ M x M1 h1 F π G H σ R S _ fun π1 G1 H1 v1 g1 R1 s1 => ?_
  cases s1 with
  | dat hd =>
    cases hd with
    | bl i =>
      refine ⟨i, rfl, ?_⟩
      cases i with
      | false =>
        rw [if_neg Bool.false_ne_true]
        exact hb ρ M1 z M' h F π1 G1 H1 σ R1 (S.gr g1) _ fun π2 G2 H2 v g2 R2 s2 => q π2 G2 H2 v (g1.trans g2) R2 s2
      | true =>
        rw [if_pos rfl]
        cases h
        exact q π1 G1 H1 _ g1 R1 (.dat (.bl true))
    | _ => cases h
  | cel _ => cases h
theorem ev_not (ha : EvS K ta a) : EvS K (tNotV ta) (eNot a) := by
  intro ρ M z M' h F π G H σ R S Q q
  unfold eNot at h
  obtain ⟨⟨x, M1⟩, h1, h⟩ := Option.bind_eq_some_iff.mp h
  refine ha ρ M x M1 h1 F π G H σ R S _ fun π1 G1 H1 v1 g1 R1 s1 => ?_
  cases s1 with
  | dat hd =>
    cases hd with
    | bl i =>
      cases h
      exact ⟨i, rfl, q π1 G1 H1 _ g1 R1 (.dat (.bl _))⟩
    | _ => cases h
  | cel _ => cases h
theorem ev_if {tt : TT} {x : SB} (hc : EvB K tt x) (ha : EvS K ta a) (hb : EvS K tb b) : EvS K (tIf tt ta tb) (eIf x a b) := by
  intro ρ M z M' h F π G H σ R S Q q
  unfold eIf at h
  obtain ⟨⟨v, M1⟩, h1, h⟩ := Option.bind_eq_some_iff.mp h
  refine hc ρ M v M1 h1 F π G H σ R S _ fun π1 G1 H1 g1 R1 => ?_
  cases v with
  | true =>
    rw [if_pos rfl]
    exact ha ρ M1 z M' h F π1 G1 H1 σ R1 (S.gr g1) _ fun π2 G2 H2 v g2 R2 s2 => q π2 G2 H2 v (g1.trans g2) R2 s2
  | false =>
    rw [if_neg Bool.false_ne_true]
    exact hb ρ M1 z M' h F π1 G1 H1 σ R1 (S.gr g1) _ fun π2 G2 H2 v g2 R2 s2 => q π2 G2 H2 v (g1.trans g2) R2 s2
theorem ev_chain {r r' : R2} {f f' : Mem → SV → SV → Option SV} (ha : EvS K ta a) (hb : EvS K tb b) (hc : EvS K tc c) (ho : OpS K r f) (ho' : OpS K r' f') : EvS K (tChain r r' ta tb tc) (eChain f f' a b c) := by
  intro ρ M z M' h F π G H σ R S Q q
  unfold eChain at h
  obtain ⟨⟨x, M1⟩, h1, h⟩ := Option.bind_eq_some_iff.mp h
  obtain ⟨⟨y, M2⟩, h2, h⟩ := Option.bind_eq_some_iff.mp h
  obtain ⟨z', h3, h⟩ := Option.bind_eq_some_iff.mp h
  refine ha ρ M x M1 h1 F π G H σ R S _ fun π1 G1 H1 v1 g1 R1 s1 => ?_
  refine hb ρ M1 y M2 h2 F π1 G1 H1 σ R1 (S.gr g1) _ fun π2 G2 H2 v2 g2 R2 s2 => ?_
  refine ho M2 x y z' h3 F π2 G2 H2 v1 v2 R2 (s1.gr g2) s2 _ fun G3 H3 u al s3 => ?_
  have g3 := (g1.trans g2).trans (Gr.of (R2.alSame al))
  have R3 := R2.al al
  cases s3 with
  | dat hd =>
    cases hd with
    | bl i =>
      refine ⟨i, rfl, ?_⟩
      cases i with
      | true =>
        rw [if_pos rfl]
        dsimp only at h
        rw [if_pos rfl] at h
        obtain ⟨⟨w, M3⟩, h4, h⟩ := Option.bind_eq_some_iff.mp h
        obtain ⟨u', h5, h⟩ := Option.bind_eq_some_iff.mp h
        cases h
        refine hc ρ M2 w M3 h4 F π2 G3 H3 σ R3 (S.gr g3) _ fun π4 G4 H4 v4 g4 R4 s4 => ?_
        exact ho' M3 y w _ h5 F π4 G4 H4 v2 v4 R4 ((s2.gr (Gr.of (R2.alSame al))).gr g4) s4 Q fun G5 H5 u al s5 => q π4 G5 H5 u ((g3.trans g4).trans (.of (R4.alSame al))) (R4.al al) s5
      | false =>
        rw [if_neg Bool.false_ne_true]
        cases h
        exact q π2 G3 H3 _ g3 R3 (.dat (.bl false))
    | _ => cases h
  | cel _ => cases h
end
end Sm

namespace Sm
open PySem PySem.Spec PyProof.Rows L2

/-! ### targets -/
def gNm (i : Nat) : SG := fun r ρ M => some (ρ.set i (some r), M)
/-- a tuple's parts to names -/
def setAll : List Nat → List PyData → Rho → Rho
  | i :: is, d :: ds, ρ => setAll is ds (ρ.set i (some (.dat d)))
  | _, _, ρ => ρ
def gTp (is : List Nat) : SG := fun r ρ M => match r with
  | .dat (.tuple ds) => if ds.length = is.length then some (setAll is ds ρ, M) else none
  | _ => none
def gNames : List Nat → TGs
  | [] => gNil
  | i :: is => gCons (gName i) (gNames is)
/-- x[i] = v -/
def gStore (o i : SE) : SG := fun r ρ M => (o ρ M).bind fun x => (i ρ x.2).bind fun y => match x.1, y.1 with
  | .cel c, .dat (.int k) => match y.2[c]?, r with
    | some (some xs), .dat d => (ixN xs.length k).bind fun j => some (ρ, y.2.set c (some (xs.set j (.dat d))))
    | _, _ => none
  | _, _ => none

section
variable {K : PySem.W.Frag}
theorem eg_name {i : Nat} : EvG K (gName i) (gNm i) := by
  intro r ρ M ρ' M' h F π G H v σ R S s Q q
  cases h
  exact q π G H _ Gr.refl R (S.set s i)
theorem eg_names : ∀ {is : List Nat} {ds : List PyData} {vs : List V} {ρ : Rho} {π : List Addr} {G H : Hp} {σ : L2.St} {Q : L2.St → Hp → Prop}, ds.length = is.length → DqAll K G vs ds → Slots K π G ρ σ →
    (∀ σ', Slots K π G (setAll is ds ρ) σ' → Q σ' H) → gNames is vs σ H Q
  | [], [], _, _, _, _, _, _, _, _, .nil, S, q => ⟨rfl, q _ S⟩
  | i :: is, d :: ds, _, _, _, _, _, _, _, hl, .cons h r, S, q => ⟨_, _, rfl, eg_names (by simpa using hl) r (S.set (.dat h) i) q⟩
  | [], _ :: _, _, _, _, _, _, _, _, hl, _, _, _ => by simp at hl
  | _ :: _, [], _, _, _, _, _, _, _, hl, _, _, _ => by simp at hl
theorem eg_tup {is : List Nat} {n : Nat} (hn : n = is.length) : EvG K (gTup K n (gNames is)) (gTp is) := by
  intro r ρ M ρ' M' h F π G H v σ R S s Q q
  subst hn
  unfold gTp at h
  cases s with
  | cel _ => cases h
  | dat hd =>
    cases hd with
    | @tup a xs ds hs ha =>
      dsimp only at h
      split at h
      · rename_i hl
        cases h
        exact ⟨a, xs, rfl, same_sqT R.ex hs, by rw [ha.length, hl], eg_names hl ha S fun σ' S' => q π G H σ' Gr.refl R S'⟩
      · cases h
    | _ => cases h
theorem eg_store {to ti : TE} {o i : SE} (ho : EvS K to o) (hi : EvS K ti i) : EvG K (gSub to ti rSetL) (gStore o i) := by
  intro r ρ M ρ' M' h F π G H v σ R S s Q q
  unfold gStore at h
  obtain ⟨⟨x, M1⟩, h1, h⟩ := Option.bind_eq_some_iff.mp h
  obtain ⟨⟨y, M2⟩, h2, h⟩ := Option.bind_eq_some_iff.mp h
  refine ho ρ M x M1 h1 F π G H σ R S _ fun π1 G1 H1 v1 g1 R1 s1 => ?_
  refine hi ρ M1 y M2 h2 F π1 G1 H1 σ R1 (S.gr g1) _ fun π2 G2 H2 v2 g2 R2 s2 => ?_
  have s1' := s1.gr g2
  cases s1' with
  | dat _ => cases h
  | @cel c a ha =>
    cases s2 with
    | cel _ => cases h
    | dat hd =>
      cases hd with
      | int k =>
        cases s with
        | cel _ =>
          dsimp only at h
          split at h
          · rename_i z; cases z
          · cases h
        | @dat d _ hd =>
        have s : Sv K π G (.dat d) v := .dat hd
        dsimp only at h
        split at h
        · rename_i xs d' hx hdd
          cases hdd
          obtain ⟨j, h3, h⟩ := Option.bind_eq_some_iff.mp h
          cases h
          obtain ⟨a', vs, q1, q2, q3, q4, q5⟩ := R2.mem c xs hx
          rw [ha] at q1; cases q1
          refine ⟨a, vs, k, j, rfl, rfl, q4, by rw [← q5.length]; exact h3, ?_⟩
          refine q π2 G2 _ σ (g1.trans g2) (R2.write hx ha (q5.set (s.gr (g1.trans g2)) j) fun i hi => ?_) (S.gr (g1.trans g2))
          rcases List.mem_or_eq_of_mem_set hi with z | z
          · exact z
          · cases z
        · cases h
      | _ => cases h

/-! ### statements -/
def sNext : SS := fun ρ M => some (.nx ρ M)
def sSeq (s u : SS) : SS := fun ρ M => (s ρ M).bind fun c => match c with
  | .nx ρ' M' => u ρ' M'
  | c => some c
def sAsg (e : SE) (g : SG) : SS := fun ρ M => (e ρ M).bind fun x => (g x.1 ρ x.2).bind fun y => some (.nx y.1 y.2)
def sExpr (e : SE) : SS := fun ρ M => (e ρ M).bind fun x => some (.nx ρ x.2)
def sRet (e : SE) : SS := fun ρ M => (e ρ M).bind fun x => some (.rt x.1 x.2)
def sRetN : SS := fun _ M => some (.rt (.dat .none) M)
def sIf (c : SB) (s u : SS) : SS := fun ρ M => (c ρ M).bind fun x => if x.1 = true then s ρ x.2 else u ρ x.2
def sBrk : SS := fun ρ M => some (.bk ρ M)
def sCnt : SS := fun ρ M => some (.ct ρ M)
def loop (g : SG) (body : SS) : List PyData → SS
  | [] => fun ρ M => some (.nx ρ M)
  | d :: ds => fun ρ M => (g (.dat d) ρ M).bind fun y => (body y.1 y.2).bind fun c => match c with
    | .nx ρ2 M2 => loop g body ds ρ2 M2
    | .ct ρ2 M2 => loop g body ds ρ2 M2
    | .bk ρ2 M2 => some (.nx ρ2 M2)
    | .rt r M2 => some (.rt r M2)
def sFor (it : SI) (g : SG) (body : SS) : SS := fun ρ M => (it ρ M).bind fun x => loop g body x.1 ρ x.2
def whl (c : SB) (body : SS) : Nat → SS
  | 0 => fun _ _ => none
  | n + 1 => fun ρ M => (c ρ M).bind fun x => if x.1 = true then (body ρ x.2).bind fun k => match k with
      | .nx ρ2 M2 => whl c body n ρ2 M2
      | .ct ρ2 M2 => whl c body n ρ2 M2
      | .bk ρ2 M2 => some (.nx ρ2 M2)
      | .rt r M2 => some (.rt r M2)
    else some (.nx ρ x.2)

variable {ta : TE} {a : SE} {t u : TS} {s s' : SS}
theorem et_next : EvT K tNext sNext := by
  intro ρ M c h F π G H σ R S D q
  cases h
  exact q π G H σ Gr.refl R S
theorem et_brk : EvT K tBreak sBrk := by
  intro ρ M c h F π G H σ R S D q
  cases h
  exact q π G H σ Gr.refl R S
theorem et_cnt : EvT K tCont sCnt := by
  intro ρ M c h F π G H σ R S D q
  cases h
  exact q π G H σ Gr.refl R S
theorem et_seq (h1 : EvT K t s) (h2 : EvT K u s') : EvT K (tSeq t u) (sSeq s s') := by
  intro ρ M c h F π G H σ R S D q
  unfold sSeq at h
  obtain ⟨k, e, h⟩ := Option.bind_eq_some_iff.mp h
  refine h1 ρ M k e F π G H σ R S _ ?_
  cases k with
  | nx ρ' M' => exact fun π' G' H' σ' g R' S' => h2 ρ' M' c h F π' G' H' σ' R' S' D (q.gr g)
  | rt r M' => cases h; exact q
  | bk ρ' M' => cases h; exact q
  | ct ρ' M' => cases h; exact q
theorem et_asg {g : TG} {sg : SG} (he : EvS K ta a) (hg : EvG K g sg) : EvT K (tAsg ta g) (sAsg a sg) := by
  intro ρ M c h F π G H σ R S D q
  unfold sAsg at h
  obtain ⟨⟨x, M1⟩, h1, h⟩ := Option.bind_eq_some_iff.mp h
  obtain ⟨⟨ρ', M2⟩, h2, h⟩ := Option.bind_eq_some_iff.mp h
  cases h
  refine he ρ M x M1 h1 F π G H σ R S _ fun π1 G1 H1 v1 g1 R1 s1 => ?_
  exact hg x ρ M1 ρ' M2 h2 F π1 G1 H1 v1 σ R1 (S.gr g1) s1 _ fun π2 G2 H2 σ2 g2 R2 S2 => q π2 G2 H2 σ2 (g1.trans g2) R2 S2
theorem et_expr (he : EvS K ta a) : EvT K (tDrop ta) (sExpr a) := by
  intro ρ M c h F π G H σ R S D q
  unfold sExpr at h
  obtain ⟨⟨x, M1⟩, h1, h⟩ := Option.bind_eq_some_iff.mp h
  cases h
  exact he ρ M x M1 h1 F π G H σ R S _ fun π1 G1 H1 v1 g1 R1 s1 => q π1 G1 H1 σ g1 R1 (S.gr g1)
theorem et_ret (he : EvS K ta a) : EvT K (tRet ta) (sRet a) := by
  intro ρ M c h F π G H σ R S D q
  unfold sRet at h
  obtain ⟨⟨x, M1⟩, h1, h⟩ := Option.bind_eq_some_iff.mp h
  cases h
  exact he ρ M x M1 h1 F π G H σ R S _ fun π1 G1 H1 v1 g1 R1 s1 => q π1 G1 H1 v1 g1 R1 s1
theorem et_retN : EvT K tRetN sRetN := by
  intro ρ M c h F π G H σ R S D q
  cases h
  exact q π G H _ Gr.refl R (.dat .non)
theorem et_if {tc : TT} {b : SB} (hc : EvB K tc b) (h1 : EvT K t s) (h2 : EvT K u s') : EvT K (tIfS tc t u) (sIf b s s') := by
  intro ρ M c h F π G H σ R S D q
  unfold sIf at h
  obtain ⟨⟨v, M1⟩, e, h⟩ := Option.bind_eq_some_iff.mp h
  refine hc ρ M v M1 e F π G H σ R S _ fun π1 G1 H1 g1 R1 => ?_
  cases v with
  | true =>
    rw [if_pos rfl]
    exact h1 ρ M1 c h F π1 G1 H1 σ R1 (S.gr g1) D (q.gr g1)
  | false =>
    rw [if_neg Bool.false_ne_true]
    exact h2 ρ M1 c h F π1 G1 H1 σ R1 (S.gr g1) D (q.gr g1)
theorem et_for {wi : TI} {g : TG} {it : SI} {sg : SG} (hi : EvI K wi it) (hg : EvG K g sg) (hb : EvT K t s) : EvT K (tFor wi g t) (sFor it sg s) := by
  intro ρ M c h F π G H σ R S D q
  unfold sFor at h
  obtain ⟨⟨ds, M1⟩, e, h⟩ := Option.bind_eq_some_iff.mp h
  refine hi ρ M ds M1 e F π G H σ R S _ fun π1 G1 H1 J g1 R1 ok => ?_
  have S1 := S.gr g1
  have q1 := EndOk.gr g1 q
  clear q S g1 e
  let W : Nat → L2.St → Hp → Prop := fun i σ H => ∃ ρ M π' G', i ≤ ds.length ∧ Gr π1 π' G1 G' ∧ Rel K F π' G' H M ∧ Slots K π' G' ρ σ ∧ loop sg s (ds.drop i) ρ M = some c
  refine ⟨fun i m σ H => m = ds.length - i ∧ W i σ H, ⟨_, rfl, ρ, M1, π1, G1, Nat.zero_le _, Gr.refl, R1, S1, h⟩, ?_⟩
  rintro i m σ' H' ⟨rfl, ρ', M', π', G', hle, g', R', S', hl⟩
  by_cases hlt : i < ds.length
  · refine .inr ⟨ok.go i H' (fun b o x => R'.ex b o (g'.s b o x)) hlt, W (i + 1), fun σ'' H'' w => ⟨ds.length - (i + 1), by omega, rfl, w⟩, fun x H'' y => ?_⟩
    obtain ⟨d, G3, e3, al, hd⟩ := ok.yld i H' x H'' G' g'.s R'.ex y hlt
    have ed : ds.drop i = d :: ds.drop (i + 1) := by
      rw [List.drop_eq_getElem_cons hlt]
      rw [List.getElem?_eq_getElem hlt] at e3
      cases e3; rfl
    rw [ed] at hl
    unfold loop at hl
    obtain ⟨⟨ρ2, M2⟩, e2, hl⟩ := Option.bind_eq_some_iff.mp hl
    obtain ⟨k, ek, hl⟩ := Option.bind_eq_some_iff.mp hl
    have ga := Gr.of (π := π') (R'.alSame al)
    refine hg (.dat d) ρ' M' ρ2 M2 e2 F π' G3 H'' x σ' (R'.al al) (S'.gr ga) (.dat hd) _ fun π4 G4 H4 σ4 g4 R4 S4 => ?_
    have gg := (g'.trans ga).trans g4
    refine hb ρ2 M2 k ek F π4 G4 H4 σ4 R4 S4 _ ?_
    cases k with
    | nx ρ5 M5 => exact fun π5 G5 H5 σ5 g5 R5 S5 => ⟨ρ5, M5, π5, G5, hlt, gg.trans g5, R5, S5, hl⟩
    | ct ρ5 M5 => exact fun π5 G5 H5 σ5 g5 R5 S5 => ⟨ρ5, M5, π5, G5, hlt, gg.trans g5, R5, S5, hl⟩
    | bk ρ5 M5 =>
      cases hl
      exact fun π5 G5 H5 σ5 g5 R5 S5 => q1 π5 G5 H5 σ5 (gg.trans g5) R5 S5
    | rt r M5 =>
      cases hl
      exact fun π5 G5 H5 σ5 g5 R5 S5 => q1 π5 G5 H5 σ5 (gg.trans g5) R5 S5
  · have e : ds.drop i = [] := List.drop_of_length_le (by omega)
    rw [e] at hl
    cases hl
    exact .inl ⟨ok.stop i H' (fun b o x => R'.ex b o (g'.s b o x)) (by omega), q1 π' G' H' σ' g' R' S'⟩
theorem et_while {tc : TT} {b : SB} {n : Nat} (hc : EvB K tc b) (hb : EvT K t s) : EvT K (tWhile tc t) (whl b s n) := by
  intro ρ M c h F π G H σ R S D q
  let W : Nat → L2.St → Hp → Prop := fun m σ H => ∃ ρ M π' G', Gr π π' G G' ∧ Rel K F π' G' H M ∧ Slots K π' G' ρ σ ∧ whl b s m ρ M = some c
  refine ⟨W, ⟨n, ρ, M, π, G, Gr.refl, R, S, h⟩, ?_⟩
  rintro m σ' H' ⟨ρ', M', π', G', g', R', S', hl⟩
  cases m with
  | zero => cases hl
  | succ m =>
    unfold whl at hl
    obtain ⟨⟨v, M1⟩, e, hl⟩ := Option.bind_eq_some_iff.mp hl
    refine hc ρ' M' v M1 e F π' G' H' σ' R' S' _ fun π1 G1 H1 g1 R1 => ?_
    cases v with
    | true =>
      rw [if_pos rfl]
      dsimp only at hl
      rw [if_pos rfl] at hl
      obtain ⟨k, ek, hl⟩ := Option.bind_eq_some_iff.mp hl
      refine ⟨W m, fun σ'' H'' w => ⟨m, Nat.lt_succ_self m, w⟩, ?_⟩
      have gg := g'.trans g1
      refine hb ρ' M1 k ek F π1 G1 H1 σ' R1 (S'.gr g1) _ ?_
      cases k with
      | nx ρ5 M5 => exact fun π5 G5 H5 σ5 g5 R5 S5 => ⟨ρ5, M5, π5, G5, gg.trans g5, R5, S5, hl⟩
      | ct ρ5 M5 => exact fun π5 G5 H5 σ5 g5 R5 S5 => ⟨ρ5, M5, π5, G5, gg.trans g5, R5, S5, hl⟩
      | bk ρ5 M5 =>
        cases hl
        exact fun π5 G5 H5 σ5 g5 R5 S5 => q π5 G5 H5 σ5 (gg.trans g5) R5 S5
      | rt r M5 =>
        cases hl
        exact fun π5 G5 H5 σ5 g5 R5 S5 => q π5 G5 H5 σ5 (gg.trans g5) R5 S5
    | false =>
      rw [if_neg Bool.false_ne_true]
      cases hl
      exact q π1 G1 H1 σ' (g'.trans g1) R1 (S'.gr g1)

/-! ### a list comprehension -/
def lcL (g : SG) (tt : SB) (el : SE) (ρ : Rho) : List PyData → Mem → Option (List PyData × Mem)
  | [], M => some ([], M)
  | d :: ds, M => (g (.dat d) ρ M).bind fun y => (tt y.1 y.2).bind fun b => if b.1 = true then (el y.1 b.2).bind fun r => match r.1 with
      | .dat x => (lcL g tt el ρ ds r.2).bind fun z => some (x :: z.1, z.2)
      | _ => none
    else lcL g tt el ρ ds b.2
def eLc (it : SI) (g : SG) (tt : SB) (el : SE) (vs : List Nat) : SE := fun ρ M => (it ρ M).bind fun x => if x.1.length ≤ 100000 then (lcL g tt el (wipeR ρ vs) x.1 x.2).bind fun z => some (.dat (.list z.1), z.2) else none
def bYes : SB := fun _ M => some (true, M)
theorem eb_yes : EvB K tYes bYes := by
  intro ρ M z M' h F π G H σ R S Q q
  cases h
  exact q π G H Gr.refl R
/-- a target that touches no other slot -/
def GW (g : TG) (vs : List Nat) : Prop := ∀ x σ H Q, g x σ H Q → g x σ H fun σ2 H2 => wipe σ2 vs = wipe σ vs ∧ Q σ2 H2
theorem gw_name {i : Nat} {vs : List Nat} (h : i ∈ vs) : GW (gName i) vs := fun x σ H Q q => ⟨wipe_set h, q⟩
theorem gw_names : ∀ {is vs : List Nat}, (∀ i ∈ is, i ∈ vs) → ∀ xs σ H Q, gNames is xs σ H Q → gNames is xs σ H fun σ2 H2 => wipe σ2 vs = wipe σ vs ∧ Q σ2 H2
  | [], vs, _, xs, σ, H, Q, ⟨e, q⟩ => ⟨e, rfl, q⟩
  | i :: is, vs, h, xs, σ, H, Q, ⟨v, r, e, q⟩ => by
    refine ⟨v, r, e, ?_⟩
    have := gw_names (fun j hj => h j (List.mem_cons_of_mem _ hj)) r (σ.set i (some v)) H Q q
    rw [wipe_set (h i List.mem_cons_self)] at this
    exact this
theorem gw_tup {is vs : List Nat} {n : Nat} (h : ∀ i ∈ is, i ∈ vs) : GW (gTup K n (gNames is)) vs := fun x σ H Q q => by
  obtain ⟨a, xs, e, hs, hl, q⟩ := q
  exact ⟨a, xs, e, hs, hl, gw_names h xs σ H Q q⟩
theorem lc_core {wi : TI} {g : TG} {tt : TT} {it : SI} {sg : SG} {b : SB} {vs : List Nat} (hi : EvI K wi it) (hg : EvG K g sg) (hw : GW g vs) (ht : EvB K tt b) (he : EvS K ta a)
    {ρ : Rho} {M M1 M2 : Mem} {ds out : List PyData} (e : it ρ M = some (ds, M1)) (hz : ds.length ≤ 100000) (e2 : lcL sg b a (wipeR ρ vs) ds M1 = some (out, M2)) {F : Hp} {π : List Addr} {G H : Hp} {σ : L2.St} (R : Rel K F π G H M) (S : Slots K π G ρ σ) {Q : VK}
    (q : ∀ π' G' H' D vs', Gr π π' G G' → Rel K (upd F D (.lst vs')) π' G' H' M2 → F D = none → DqAll K G' vs' out → Q (.ref D) H') : tLc wi g tt ta vs σ H Q := by
  · skip
    refine hi ρ M ds M1 e F π G H σ R S _ fun π1 G1 H1 J g1 R1 ok => ?_
    intro D hD
    have S1 := (S.gr g1).wiped vs
    have hF := R1.frNone hD
    let W : Nat → Hp → Prop := fun i H => ∃ M π' G' acc vs' rest, i ≤ ds.length ∧ vs'.length ≤ i ∧ Gr π1 π' G1 G' ∧ Rel K (upd F D (.lst vs')) π' G' H M ∧ DqAll K G' vs' acc ∧ lcL sg b a (wipeR ρ vs) (ds.drop i) M = some (rest, M2) ∧ out = acc ++ rest
    refine ⟨fun i m H => m = ds.length - i ∧ W i H, ⟨_, rfl, M1, π1, G1, [], [], out, Nat.zero_le _, Nat.le_refl _, Gr.refl, R1.frame hD, .nil, e2, rfl⟩, ?_⟩
    rintro i m H' ⟨rfl, M3, π', G', acc, vs', rest, hle, hvl, g', R', hacc, hl, ho⟩
    by_cases hlt : i < ds.length
    · refine .inr ⟨ok.go i H' (fun b o x => R'.ex b o (g'.s b o x)) hlt, W (i + 1), fun H'' w => ⟨ds.length - (i + 1), by omega, rfl, w⟩, fun x H'' y => ?_⟩
      obtain ⟨d, G3, e3, al, hd⟩ := ok.yld i H' x H'' G' g'.s R'.ex y hlt
      have ed : ds.drop i = d :: ds.drop (i + 1) := by
        rw [List.drop_eq_getElem_cons hlt]
        rw [List.getElem?_eq_getElem hlt] at e3
        cases e3; rfl
      rw [ed] at hl
      unfold lcL at hl
      obtain ⟨⟨ρ2, M4⟩, e4, hl⟩ := Option.bind_eq_some_iff.mp hl
      obtain ⟨⟨bv, M5⟩, e5, hl⟩ := Option.bind_eq_some_iff.mp hl
      have ga := Gr.of (π := π') (R'.alSame al)
      have hwi : wipe (wipe σ vs) vs = wipe σ vs := wipe_wipe σ vs vs (fun v hv => hv)
      have key : ∀ Q' : L2.St → Hp → Prop, (∀ π4 G4 H4 σ4, Gr π' π4 G3 G4 → Rel K (upd F D (.lst vs')) π4 G4 H4 M4 → Slots K π4 G4 ρ2 σ4 → Q' σ4 H4) → g x (wipe σ vs) H'' fun σ2 H2 => wipe σ2 vs = wipe σ vs ∧ Q' σ2 H2 := by
        intro Q' hQ
        have := hw x (wipe σ vs) H'' Q' (hg (.dat d) (wipeR ρ vs) M3 ρ2 M4 e4 (upd F D (.lst vs')) π' G3 H'' x (wipe σ vs) (R'.al al) (S1.gr (g'.trans ga)) (.dat hd) Q' hQ)
        rw [hwi] at this
        exact this
      refine key _ fun π4 G4 H4 σ4 g4 R4 S4 => ?_
      refine ht ρ2 M4 bv M5 e5 _ π4 G4 H4 σ4 R4 S4 _ fun π5 G5 H5 g5 R5 => ?_
      have gg := ((g'.trans ga).trans g4).trans g5
      have gh := (ga.trans g4).trans g5
      cases bv with
      | true =>
        rw [if_pos rfl]
        dsimp only at hl
        rw [if_pos rfl] at hl
        obtain ⟨⟨r, M6⟩, e6, hl⟩ := Option.bind_eq_some_iff.mp hl
        refine he ρ2 M5 r M6 e6 _ π5 G5 H5 σ4 R5 (S4.gr g5) _ fun π6 G6 H6 v6 g6 R6 s6 => ?_
        cases s6 with
        | cel _ => cases hl
        | @dat x' v6 hd6 =>
          dsimp only at hl
          obtain ⟨⟨rest', M7⟩, e7, hl⟩ := Option.bind_eq_some_iff.mp hl
          cases hl
          refine ⟨vs', (R6.fr D _ upd_same).1, szl (by omega), ?_⟩
          refine ⟨M6, π6, G6, acc ++ [x'], vs' ++ [v6], rest', hlt, by rw [List.length_append]; simp; omega, gg.trans g6, ?_, (hacc.mono (gh.s.trans g6.s)).append (.cons hd6 .nil), e7, by rw [ho]; simp⟩
          have := R6.framed (o' := .lst (vs' ++ [v6])) upd_same
          rw [upd_upd] at this
          exact this
      | false =>
        rw [if_neg Bool.false_ne_true]
        dsimp only at hl
        rw [if_neg Bool.false_ne_true] at hl
        exact ⟨M5, π5, G5, acc, vs', rest, hlt, by omega, gg, R5, hacc.mono gh.s, hl, ho⟩
    · have e : ds.drop i = [] := List.drop_of_length_le (by omega)
      rw [e] at hl
      cases hl
      rw [List.append_nil] at ho
      subst ho
      exact .inl ⟨ok.stop i H' (fun b o x => R'.ex b o (g'.s b o x)) (by omega), q π' G' H' D vs' (g1.trans g') R' hF hacc⟩
theorem ev_lc {wi : TI} {g : TG} {tt : TT} {it : SI} {sg : SG} {b : SB} {vs : List Nat} (hi : EvI K wi it) (hg : EvG K g sg) (hw : GW g vs) (ht : EvB K tt b) (he : EvS K ta a) : EvS K (tLc wi g tt ta vs) (eLc it sg b a vs) := by
  intro ρ M z M' h F π G H σ R S Q q
  unfold eLc at h
  obtain ⟨⟨ds, M1⟩, e, h⟩ := Option.bind_eq_some_iff.mp h
  split at h
  · rename_i hz
    dsimp only at hz
    obtain ⟨⟨out, M2⟩, e2, h⟩ := Option.bind_eq_some_iff.mp h
    cases h
    refine lc_core hi hg hw ht he e hz e2 R S fun π' G' H' D vs' g' R' hF hacc => ?_
    obtain ⟨R6, sg6⟩ := R'.unframe hF
    exact q π' _ H' _ (g'.trans (.of sg6)) R6 (.dat (.lst (SqL.of upd_same) (hacc.mono sg6)))
  · cases h
/-- a list comprehension whose list may change -/
def eLcN (it : SI) (g : SG) (tt : SB) (el : SE) (vs : List Nat) : SE := fun ρ M => (it ρ M).bind fun x => if x.1.length ≤ 100000 then (lcL g tt el (wipeR ρ vs) x.1 x.2).bind fun z => some (.cel z.2.length, z.2 ++ [some (z.1.map SV.dat)]) else none
theorem Rel.adopt {F : Hp} {π : List Addr} {G H : Hp} {M : Mem} {p : Addr} {xs : List SV} {vs : List V} (r : Rel K (upd F p (.lst vs)) π G H M) (hF : F p = none) (s : Svs K π G xs vs) : Rel K F (π ++ [p]) G H (M ++ [some xs]) := by
  obtain ⟨hH, hg⟩ := r.fr p _ upd_same
  have old : ∀ (i : Nat) (ys : List SV), (M ++ [some xs])[i]? = some (some ys) → (i < M.length ∧ M[i]? = some (some ys)) ∨ (i = M.length ∧ ys = xs) := by
    intro i ys e
    by_cases hi : i < M.length
    · rw [List.getElem?_append_left hi] at e; exact .inl ⟨hi, e⟩
    · rw [List.getElem?_append_right (by omega)] at e
      have hz : i - M.length = 0 := by
        by_cases hz : i - M.length = 0
        · exact hz
        · rw [List.getElem?_eq_none (by simp; omega)] at e; cases e
      rw [hz] at e
      simp at e
      exact .inr ⟨by omega, e.symm⟩
  have at1 : (π ++ [p])[M.length]? = some p := by
    rw [List.getElem?_append_right (by rw [r.len]; exact Nat.le_refl _), r.len, Nat.sub_self]; rfl
  have ne : ∀ (i : Nat) (ys : List SV) (b : Addr), M[i]? = some (some ys) → (π ++ [p])[i]? = some b → b ≠ p := by
    intro i ys b e q
    obtain ⟨b', _, h1, h2, _⟩ := r.mem i ys e
    have : (π ++ [p])[i]? = some b' := ix_app h1
    rw [this] at q; cases q
    intro z
    rw [z, upd_same] at h2; cases h2
  refine ⟨r.ex, fun b x e => ?_, by simp [r.len], fun i ys e => ?_, fun i j ys zs a e1 e2 e3 e4 => ?_, fun i ys e j hj => ?_⟩
  · have hb : b ≠ p := fun z => by rw [z, hF] at e; cases e
    exact r.fr b x (by rw [upd_ne hb]; exact e)
  · rcases old i ys e with ⟨hi, e⟩ | ⟨hi, e⟩
    · obtain ⟨a, vs', h1, h2, h3, h4, h5⟩ := r.mem i ys e
      have hb : a ≠ p := ne i ys a e (ix_app h1)
      exact ⟨a, vs', ix_app h1, by rw [upd_ne hb] at h2; exact h2, h3, h4, h5.mono (Same.refl G)⟩
    · subst e; subst hi
      exact ⟨p, vs, at1, hF, hg, hH, s.mono (Same.refl G)⟩
  · rcases old i ys e1 with ⟨hi, e1⟩ | ⟨hi, e1⟩ <;> rcases old j zs e2 with ⟨hj, e2⟩ | ⟨hj, e2⟩
    · rw [List.getElem?_append_left (by rw [r.len]; exact hi)] at e3
      rw [List.getElem?_append_left (by rw [r.len]; exact hj)] at e4
      exact r.inj i j ys zs a e1 e2 e3 e4
    · subst hj
      rw [at1] at e4; cases e4
      exact absurd rfl (ne i ys _ e1 e3)
    · subst hi
      rw [at1] at e3; cases e3
      exact absurd rfl (ne j zs _ e2 e4)
    · omega
  · rcases old i ys e with ⟨hi, e⟩ | ⟨hi, e⟩
    · exact r.wf i ys e j hj
    · subst e; subst hi
      have := s.refs hj
      rw [r.len] at this
      exact this
theorem ev_lcN {wi : TI} {g : TG} {tt : TT} {it : SI} {sg : SG} {b : SB} {vs : List Nat} (hi : EvI K wi it) (hg : EvG K g sg) (hw : GW g vs) (ht : EvB K tt b) (he : EvS K ta a) : EvS K (tLc wi g tt ta vs) (eLcN it sg b a vs) := by
  intro ρ M z M' h F π G H σ R S Q q
  unfold eLcN at h
  obtain ⟨⟨ds, M1⟩, e, h⟩ := Option.bind_eq_some_iff.mp h
  split at h
  · rename_i hz
    dsimp only at hz
    obtain ⟨⟨out, M2⟩, e2, h⟩ := Option.bind_eq_some_iff.mp h
    cases h
    refine lc_core hi hg hw ht he e hz e2 R S fun π' G' H' D vs' g' R' hF hacc => ?_
    refine q (π' ++ [D]) G' H' _ (g'.trans ⟨Same.refl G', [D], rfl⟩) (R'.adopt hF (Svs.ofD hacc)) (.cel ?_)
    show (π' ++ [D])[M2.length]? = some D
    rw [List.getElem?_append_right (by rw [R'.len]; exact Nat.le_refl _), R'.len, Nat.sub_self]; rfl
  · cases h
/-- behind a statement a list is held still: the slot i holds data from there on -/
def sFrz (i : Nat) (s : SS) : SS := fun ρ M => (s ρ M).bind fun c => match c with
  | .nx ρ' M' => match ρ'[i]? with
    | some (some (.cel j)) => match M'[j]? with
      | some (some xs) => (dats xs).bind fun ds => some (.nx (ρ'.set i (some (.dat (.list ds)))) (M'.set j none))
      | _ => none
    | _ => none
  | c => some c
theorem et_frz {i : Nat} {s : SS} {t : TS} (hs : EvT K t s) : EvT K t (sFrz i s) := by
  intro ρ M c h F π G H σ R S D q
  unfold sFrz at h
  obtain ⟨k, e, h⟩ := Option.bind_eq_some_iff.mp h
  refine hs ρ M k e F π G H σ R S D ?_
  cases k with
  | nx ρ' M' =>
    dsimp only at h
    intro π' G' H' σ' g R' S'
    split at h
    · rename_i j hj
      split at h
      · rename_i xs hx
        obtain ⟨ds, hd, h⟩ := Option.bind_eq_some_iff.mp h
        cases h
        obtain ⟨a, vs, p1, p2, p3, p4, p5⟩ := R'.mem j xs hx
        obtain ⟨y, hy, sy⟩ := S'.get hj
        cases sy with
        | cel ea =>
          rw [p1] at ea
          cases ea
          obtain ⟨R2, sg⟩ := R'.freeze hx p1 p4
          have S2 := (S'.gr (Gr.of sg)).set (.dat (.lst (SqL.of upd_same) ((dats_all hd p5).mono sg))) i
          have es : σ'.set i (some (.ref a)) = σ' := by
            apply List.ext_getElem?
            intro n
            by_cases hn : i = n
            · subst hn
              obtain ⟨hlt, _⟩ := List.getElem?_eq_some_iff.mp hy
              rw [List.getElem?_set_self hlt, hy]
            · rw [List.getElem?_set_ne hn]
          rw [es] at S2
          exact q π' _ H' σ' (g.trans (.of sg)) R2 S2
      · cases h
    · cases h
  | rt r M' => cases h; exact q
  | bk ρ' M' => cases h; exact q
  | ct ρ' M' => cases h; exact q
/-- a, b = x, y -/
def sPar (i j : Nat) (a : SA) : SS := fun ρ M => (a ρ M).bind fun x => match x.1 with
  | [u, v] => some (.nx ((ρ.set i (some u)).set j (some v)) x.2)
  | _ => none
theorem et_par {i j : Nat} {t : TA} {as : SA} (hs : EvA K t as) : EvT K (tPar i j t) (sPar i j as) := by
  intro ρ M c h F π G H σ R S D q
  unfold sPar at h
  obtain ⟨⟨x, M1⟩, h1, h⟩ := Option.bind_eq_some_iff.mp h
  refine hs ρ M x M1 h1 F π G H σ R S _ fun π1 G1 H1 v1 g1 R1 s1 => ?_
  dsimp only at h
  split at h
  · cases h
    cases s1 with
    | cons s1 s2 =>
      cases s2 with
      | cons s2 s3 =>
        cases s3
        exact ⟨_, _, rfl, q π1 G1 H1 _ g1 R1 (((S.gr g1).set s1 i).set s2 j)⟩
  · cases h

/-! ### defs -/
def fin (r : SV) (M M' : Mem) : Option (SV × Mem) := match r with
  | .dat d => some (.dat d, M'.take M.length)
  | r => some (r, M')
def mkF (n : Nat) (body : SS) : SF := fun args M => (body (args.map some ++ List.replicate (n - args.length) none) M).bind fun c => match c with
  | .rt r M' => fin r M M'
  | .nx _ M' => fin (.dat .none) M M'
  | _ => none
/-- the promise of a def -/
def spF (K : PySem.W.Frag) (n : Nat) (f : SF) : Sp := fun vs H Q _ => ∃ args M r M' F π G, f args M = some (r, M') ∧ args.length = n ∧ Rel K F π G H M ∧ Svs K π G args vs ∧
  ∀ π' G' H' v, Gr π π' G G' → Rel K F π' G' H' M' → Sv K π' G' r v → Q v H'
theorem fin_ok {F : Hp} {π π' : List Addr} {G G' H' : Hp} {M M' M'' : Mem} {r r' : SV} {v : V} (h : fin r M M' = some (r', M'')) (hl : π.length = M.length) (g : Gr π π' G G') (R : Rel K F π' G' H' M') (s : Sv K π' G' r v) :
    ∃ π'', Gr π π'' G G' ∧ Rel K F π'' G' H' M'' ∧ Sv K π'' G' r' v := by
  unfold fin at h
  cases r with
  | dat d =>
    cases h
    obtain ⟨gs, more, rfl⟩ := g
    rw [← hl]
    refine ⟨π, Gr.of gs, R.cut, ?_⟩
    cases s with
    | dat hd => exact .dat hd
  | cel i =>
    cases h
    exact ⟨π', g, R, s⟩
theorem slots_start {π : List Addr} {G : Hp} {N : List Str} : ∀ {args : List SV} {vs : List V}, Svs K π G args vs → Slots K π G (args.map some ++ List.replicate (N.length - args.length) none) (start N vs) := by
  intro args vs h
  unfold L2.start
  rw [h.length]
  generalize N.length - vs.length = k
  induction h with
  | nil =>
    show Slots K π G (List.replicate k none) (List.replicate k none)
    induction k with
    | zero => exact .nil
    | succ k ih => rw [List.replicate_succ, List.replicate_succ]; exact .skip ih
  | cons hs _ ih => exact .hold hs ih
/-- a def keeps its promise, by its body -/
theorem fn_ok {P : Program} {w : World} {mg : Str → Option Value} {base : Heap} {x qual : Str} {st : Stmt} {f : Addr} {fd : FuncData} {N ps : List Str} {k : Nat} (Fu : Fun K x qual st f fd) (Sc : FnScope N ps (defScope st)) {body : SS} {t : TS}
    (hb : ∀ (cdv : Value) (A : Around) (outer : List PySem.Env) (s : Shared) (H : Hp) (E : XK), Room k (A.deeper (envOfC qual (defScope st) s.heap.objs.size f cdv)) →
      PSs (cxOf CX0 P w K mg base N qual (defScope st) f cdv A outer s H E).nox (defBody st) t) (he : EvT K t body) : FnOk P w K mg base CX0 (k + 1) f fd ps (spF K ps.length (mkF N.length body)) := by
  refine Fu.ok Sc (fun vs H Q E h => ?_) (fun cdv A outer s H vs Q E hr h => ?_)
  · obtain ⟨args, M, r, M', F, π, G, _, hl, _, hs, _⟩ := h
    rw [← hs.length, hl]
  · obtain ⟨args, M, r, M', F, π, G, hf, hl, R, hs, q⟩ := h
    refine ⟨t, hb cdv A outer s H E hr, ?_⟩
    unfold mkF at hf
    obtain ⟨c, hc, hf⟩ := Option.bind_eq_some_iff.mp hf
    refine he _ M c hc F π G H (start N vs) R (slots_start hs) _ ?_
    cases c with
    | nx ρ M1 =>
      intro π' G' H' σ' g R' S'
      obtain ⟨π'', g2, R2, s2⟩ := fin_ok hf R.len g R' (.dat .non)
      exact q π'' G' H' _ g2 R2 s2
    | rt v M1 =>
      intro π' G' H' u g R' s'
      obtain ⟨π'', g2, R2, s2⟩ := fin_ok hf R.len g R' s'
      exact q π'' G' H' _ g2 R2 s2
    | bk _ _ => cases hf
    | ct _ _ => cases hf
theorem ev_call {f : SF} {n : Nat} {E : XK} {ts : TA} {as : SA} (hs : EvA K ts as) (hn : ∀ ρ M x, as ρ M = some x → x.1.length = n) : EvS K (tCall (spF K n f) [] E ts) (eCall f as) := by
  intro ρ M z M' h F π G H σ R S Q q
  unfold eCall at h
  obtain ⟨⟨x, M1⟩, h1, h⟩ := Option.bind_eq_some_iff.mp h
  refine hs ρ M x M1 h1 F π G H σ R S _ fun π1 G1 H1 v1 g1 R1 s1 => ?_
  rw [List.append_nil]
  exact ⟨x, M1, z, M', F, π1, G1, h, hn ρ M _ h1, R1, s1, fun π' G' H' v g R' s' => q π' G' H' v (g1.trans g) R' s'⟩
theorem na_nil : ∀ ρ M x, aNil ρ M = some x → x.1.length = 0 := fun ρ M x h => by cases h; rfl
theorem na_cons {a : SE} {as : SA} {n : Nat} (hn : ∀ ρ M x, as ρ M = some x → x.1.length = n) : ∀ ρ M x, aCons a as ρ M = some x → x.1.length = n + 1 := fun ρ M x h => by
  unfold aCons at h
  obtain ⟨⟨x, M1⟩, h1, h⟩ := Option.bind_eq_some_iff.mp h
  obtain ⟨⟨y, M2⟩, h2, h⟩ := Option.bind_eq_some_iff.mp h
  cases h
  simp [hn _ _ _ h2]

/-! ### what a loop walks -/
def iDat (a : SE) : SI := fun ρ M => (a ρ M).bind fun x => match x.1 with
  | .dat (.list ds) => some (ds, x.2)
  | .dat (.tuple ds) => some (ds, x.2)
  | _ => none
def iDatL (a : SE) : SI := fun ρ M => (a ρ M).bind fun x => match x.1 with
  | .dat (.list ds) => some (ds, x.2)
  | _ => none
def iDatT (a : SE) : SI := fun ρ M => (a ρ M).bind fun x => match x.1 with
  | .dat (.tuple ds) => some (ds, x.2)
  | _ => none
def rangeD (lo hi : Int) : List PyData := (List.range (hi - lo).toNat).map fun k => PyData.int (lo + (k : Nat))
def iR1 (a : SA) : SI := fun ρ M => (a ρ M).bind fun x => match x.1 with
  | [.dat (.int j)] => if -(2 ^ 62) ≤ j ∧ j < 2 ^ 62 then some (rangeD 0 j, x.2) else none
  | _ => none
def iR2 (a : SA) : SI := fun ρ M => (a ρ M).bind fun x => match x.1 with
  | [.dat (.int i), .dat (.int j)] => if (-(2 ^ 62) ≤ i ∧ i < 2 ^ 62) ∧ -(2 ^ 62) ≤ j ∧ j < 2 ^ 62 then some (rangeD i j, x.2) else none
  | _ => none
def zipD (xs ys : List PyData) : List PyData := (xs.zip ys).map fun p => PyData.tuple [p.1, p.2]
def seqD : PyData → Option (List PyData)
  | .list xs => some xs
  | .tuple xs => some xs
  | _ => none
def iZp (a : SA) : SI := fun ρ M => (a ρ M).bind fun x => match x.1 with
  | [.dat d, .dat e] => (seqD d).bind fun xs => (seqD e).bind fun ys => some (zipD xs ys, x.2)
  | _ => none
def iRv (a : SE) : SI := fun ρ M => (a ρ M).bind fun x => match x.1 with
  | .dat (.list ds) => some (ds.reverse, x.2)
  | .dat (.tuple ds) => some (ds.reverse, x.2)
  | _ => none
theorem itl_ok {G : Hp} {l : Addr} {xs : List V} {ds : List PyData} (hs : SqL K G l xs) (ha : DqAll K G xs ds) : ItOk K G (Itl K l) ds where
  go := fun i H e hi => by
    have hi' : i < xs.length := by rw [ha.length]; exact hi
    exact ⟨xs, xs[i], e.seq hs, List.getElem?_eq_getElem hi'⟩
  stop := fun i H e hi => ⟨xs, e.seq hs, by rw [ha.length]; exact hi⟩
  yld := fun i H x H' G2 e1 e2 y hi => by
    obtain ⟨rfl, h⟩ := y
    obtain ⟨d, h1, h2⟩ := ha.get (h xs ((e1.trans e2).seq hs))
    exact ⟨d, G2, h1, .same, h2.mono e1⟩
theorem itt_ok {G : Hp} {l : Addr} {xs : List V} {ds : List PyData} (hs : SqT K G l xs) (ha : DqAll K G xs ds) : ItOk K G (Itt K l) ds where
  go := fun i H e hi => by
    have hi' : i < xs.length := by rw [ha.length]; exact hi
    exact ⟨xs, xs[i], same_sqT e hs, List.getElem?_eq_getElem hi'⟩
  stop := fun i H e hi => ⟨xs, same_sqT e hs, by rw [ha.length]; exact hi⟩
  yld := fun i H x H' G2 e1 e2 y hi => by
    obtain ⟨rfl, h⟩ := y
    obtain ⟨d, h1, h2⟩ := ha.get (h xs (same_sqT (e1.trans e2) hs))
    exact ⟨d, G2, h1, .same, h2.mono e1⟩
theorem rangeD_len (lo hi : Int) : (rangeD lo hi).length = (hi - lo).toNat := by simp [rangeD]
theorem itr_ok {G : Hp} {lo hi : Int} : ItOk K G (Itr lo (hi - lo).toNat) (rangeD lo hi) where
  go := fun i H e h => by rw [rangeD_len] at h; exact h
  stop := fun i H e h => by rw [rangeD_len] at h; exact h
  yld := fun i H x H' G2 e1 e2 y h => by
    obtain ⟨rfl, rfl⟩ := y
    rw [rangeD_len] at h
    exact ⟨.int (lo + (i : Nat)), G2, by simp [rangeD, h], .same, .int _⟩
theorem zipD_get {xs ys : List PyData} {i : Nat} {x y : PyData} (h1 : xs[i]? = some x) (h2 : ys[i]? = some y) : (zipD xs ys)[i]? = some (.tuple [x, y]) := by
  unfold zipD
  rw [List.getElem?_map, List.getElem?_zip_eq_some (z := (x, y)) |>.mpr ⟨h1, h2⟩]; rfl
theorem zipD_len (xs ys : List PyData) : (zipD xs ys).length = min xs.length ys.length := by simp [zipD]
theorem itz_ok {G : Hp} {l m : Addr} {xs ys : List V} {ds es : List PyData} (hs : SqL K G l xs) (ha : DqAll K G xs ds) (hs' : SqL K G m ys) (ha' : DqAll K G ys es) : ItOk K G (Itz K l m) (zipD ds es) where
  go := fun i H e hi => by
    rw [zipD_len] at hi
    have h1 : i < xs.length := by rw [ha.length]; omega
    have h2 : i < ys.length := by rw [ha'.length]; omega
    exact ⟨xs, ys, xs[i], ys[i], e.seq hs, e.seq hs', List.getElem?_eq_getElem h1, List.getElem?_eq_getElem h2⟩
  stop := fun i H e hi => by
    rw [zipD_len] at hi
    refine ⟨xs, ys, e.seq hs, e.seq hs', ?_⟩
    rw [ha.length, ha'.length]; omega
  yld := fun i H x H' G2 e1 e2 y hi => by
    obtain ⟨T, x1, x2, rfl, nT, rfl, h1, h2⟩ := y
    obtain ⟨d, q1, q2⟩ := ha.get (h1 xs ((e1.trans e2).seq hs))
    obtain ⟨d', q3, q4⟩ := ha'.get (h2 ys ((e1.trans e2).seq hs'))
    have hn : Same G2 (upd G2 T (.tup [x1, x2])) := same_upd (none_of_same e2 nT)
    exact ⟨_, upd G2 T (.tup [x1, x2]), zipD_get q1 q3, .new nT, .tup (SqT.of upd_same) (.cons ((q2.mono e1).mono hn) (.cons ((q4.mono e1).mono hn) .nil))⟩
theorem itzt_ok {G : Hp} {l m : Addr} {xs ys : List V} {ds es : List PyData} (hs : SqT K G l xs) (ha : DqAll K G xs ds) (hs' : SqT K G m ys) (ha' : DqAll K G ys es) : ItOk K G (RZ.ItzT K l m) (zipD ds es) where
  go := fun i H e hi => by
    rw [zipD_len] at hi
    have h1 : i < xs.length := by rw [ha.length]; omega
    have h2 : i < ys.length := by rw [ha'.length]; omega
    exact ⟨xs, ys, xs[i], ys[i], same_sqT e hs, same_sqT e hs', List.getElem?_eq_getElem h1, List.getElem?_eq_getElem h2⟩
  stop := fun i H e hi => by
    rw [zipD_len] at hi
    refine ⟨xs, ys, same_sqT e hs, same_sqT e hs', ?_⟩
    rw [ha.length, ha'.length]; omega
  yld := fun i H x H' G2 e1 e2 y hi => by
    obtain ⟨T, x1, x2, rfl, nT, rfl, h1, h2⟩ := y
    obtain ⟨d, q1, q2⟩ := ha.get (h1 xs (same_sqT (e1.trans e2) hs))
    obtain ⟨d', q3, q4⟩ := ha'.get (h2 ys (same_sqT (e1.trans e2) hs'))
    have hn : Same G2 (upd G2 T (.tup [x1, x2])) := same_upd (none_of_same e2 nT)
    exact ⟨_, upd G2 T (.tup [x1, x2]), zipD_get q1 q3, .new nT, .tup (SqT.of upd_same) (.cons ((q2.mono e1).mono hn) (.cons ((q4.mono e1).mono hn) .nil))⟩
theorem rev_get {ds : List PyData} {i : Nat} {d : PyData} (hi : i < ds.length) (h : ds[ds.length - 1 - i]? = some d) : ds.reverse[i]? = some d := by
  rw [List.getElem?_reverse hi]; exact h
theorem itv_ok {G : Hp} {l : Addr} {xs : List V} {ds : List PyData} (hs : SqL K G l xs) (ha : DqAll K G xs ds) : ItOk K G (Itv K l xs.length) ds.reverse where
  go := fun i H e hi => by
    rw [List.length_reverse] at hi
    have hi' : i < xs.length := by rw [ha.length]; exact hi
    exact ⟨hi', xs, xs[xs.length - 1 - i], e.seq hs, List.getElem?_eq_getElem (by omega)⟩
  stop := fun i H e hi => by rw [List.length_reverse] at hi; show xs.length ≤ i; rw [ha.length]; exact hi
  yld := fun i H x H' G2 e1 e2 y hi => by
    rw [List.length_reverse] at hi
    obtain ⟨rfl, h⟩ := y
    obtain ⟨d, h1, h2⟩ := ha.get (h xs ((e1.trans e2).seq hs))
    rw [ha.length] at h1
    exact ⟨d, G2, rev_get hi h1, .same, h2.mono e1⟩
theorem itvt_ok {G : Hp} {l : Addr} {xs : List V} {ds : List PyData} (hs : SqT K G l xs) (ha : DqAll K G xs ds) : ItOk K G (RT.ItvT K l xs.length) ds.reverse where
  go := fun i H e hi => by
    rw [List.length_reverse] at hi
    have hi' : i < xs.length := by rw [ha.length]; exact hi
    exact ⟨hi', xs, xs[xs.length - 1 - i], same_sqT e hs, List.getElem?_eq_getElem (by omega)⟩
  stop := fun i H e hi => by rw [List.length_reverse] at hi; show xs.length ≤ i; rw [ha.length]; exact hi
  yld := fun i H x H' G2 e1 e2 y hi => by
    rw [List.length_reverse] at hi
    obtain ⟨rfl, h⟩ := y
    obtain ⟨d, h1, h2⟩ := ha.get (h xs (same_sqT (e1.trans e2) hs))
    rw [ha.length] at h1
    exact ⟨d, G2, rev_get hi h1, .same, h2.mono e1⟩
theorem ei_lst (ha : EvS K ta a) : EvI K (iList K ta) (iDatL a) := by
  intro ρ M z M' h F π G H σ R S Q q
  unfold iDatL at h
  obtain ⟨⟨x, M1⟩, h1, h⟩ := Option.bind_eq_some_iff.mp h
  refine ha ρ M x M1 h1 F π G H σ R S _ fun π1 G1 H1 v1 g1 R1 s1 => ?_
  cases s1 with
  | cel _ => cases h
  | dat hd =>
    cases hd with
    | @lst l xs ds hs ha =>
      cases h
      exact ⟨l, rfl, ⟨xs, R1.ex.seq hs⟩, q π1 G1 H1 _ g1 R1 (itl_ok hs ha)⟩
    | _ => cases h
theorem ei_tup (ha : EvS K ta a) : EvI K (iTup K ta) (iDatT a) := by
  intro ρ M z M' h F π G H σ R S Q q
  unfold iDatT at h
  obtain ⟨⟨x, M1⟩, h1, h⟩ := Option.bind_eq_some_iff.mp h
  refine ha ρ M x M1 h1 F π G H σ R S _ fun π1 G1 H1 v1 g1 R1 s1 => ?_
  cases s1 with
  | cel _ => cases h
  | dat hd =>
    cases hd with
    | @tup l xs ds hs ha =>
      cases h
      exact ⟨l, rfl, ⟨xs, same_sqT R1.ex hs⟩, q π1 G1 H1 _ g1 R1 (itt_ok hs ha)⟩
    | _ => cases h
/-- a list or a tuple -/
def iSq (K : PySem.W.Frag) (tl : TE) : TI := fun σ H R => tl σ H fun x H1 => ∃ a, x = .ref a ∧ (((∃ xs, SqL K H1 a xs) ∧ R (Itl K a) H1) ∨ ((∃ xs, SqT K H1 a xs) ∧ R (Itt K a) H1))
theorem pi_sq {X : Cx} {tg l : Expr} {tl : TE} (hl : PE X l tl) : PI X tg l (iSq X.K tl) := by
  refine ⟨fun pins s σ H R I h => ?_⟩
  refine thn (hl.run pins s σ H _ I h) fun v s1 ⟨x, H1, I1, r1, q1⟩ => ?_
  obtain ⟨a, e, q1⟩ := q1
  subst e
  cases r1
  rcases q1 with ⟨⟨xs, hq⟩, q⟩ | ⟨⟨xs, hq⟩, q⟩
  · obtain ⟨its, rv, p, hz⟩ := I1.list hq
    refine wpAny_pyIter_list p.isList ?_
    refine ⟨s1.heap.objs.size, [s1.heap.objs.size], _, _, H1, rfl, I1.kept (t' := s1.toks) fun b o e => Heap.get?_push_of_some _ e, turn_list a _, ⟨_, Heap.get?_push_size _ rfl, rfl, rfl⟩, fun b hb => ?_, q⟩
    have e : b = s1.heap.objs.size := by simpa using hb
    subst e
    exact I1.fpOk (Nat.le_refl _) (I1.hok.fresh (Nat.le_refl _))
  · obtain ⟨its, rv, p, hz⟩ := I1.tuple hq
    refine wpAny_pyIter_tuple (show s1.heap.IsTuple a its.toArray from p) ?_
    refine ⟨s1.heap.objs.size, [s1.heap.objs.size], _, _, H1, rfl, I1.kept (t' := s1.toks) fun b o e => Heap.get?_push_of_some _ e, turn_tuple a _, ⟨_, Heap.get?_push_size _ rfl, rfl, rfl⟩, fun b hb => ?_, q⟩
    have e : b = s1.heap.objs.size := by simpa using hb
    subst e
    exact I1.fpOk (Nat.le_refl _) (I1.hok.fresh (Nat.le_refl _))
theorem ei_sq (ha : EvS K ta a) : EvI K (iSq K ta) (iDat a) := by
  intro ρ M z M' h F π G H σ R S Q q
  unfold iDat at h
  obtain ⟨⟨x, M1⟩, h1, h⟩ := Option.bind_eq_some_iff.mp h
  refine ha ρ M x M1 h1 F π G H σ R S _ fun π1 G1 H1 v1 g1 R1 s1 => ?_
  cases s1 with
  | cel _ => cases h
  | dat hd =>
    cases hd with
    | @lst l xs ds hs ha =>
      cases h
      exact ⟨l, rfl, .inl ⟨⟨xs, R1.ex.seq hs⟩, q π1 G1 H1 _ g1 R1 (itl_ok hs ha)⟩⟩
    | @tup l xs ds hs ha =>
      cases h
      exact ⟨l, rfl, .inr ⟨⟨xs, same_sqT R1.ex hs⟩, q π1 G1 H1 _ g1 R1 (itt_ok hs ha)⟩⟩
    | _ => cases h
theorem ei_r1 {ts : TA} {as : SA} (hs : EvA K ts as) : EvI K (iRng1 ts) (iR1 as) := by
  intro ρ M z M' h F π G H σ R S Q q
  unfold iR1 at h
  obtain ⟨⟨x, M1⟩, h1, h⟩ := Option.bind_eq_some_iff.mp h
  refine hs ρ M x M1 h1 F π G H σ R S _ fun π1 G1 H1 v1 g1 R1 s1 => ?_
  dsimp only at h
  split at h
  · rename_i j
    split at h
    · rename_i hj
      cases h
      cases s1 with
      | cons s1 s2 =>
        cases s2
        cases s1 with
        | dat hd =>
          cases hd
          refine ⟨j, rfl, hj.1, hj.2, q π1 G1 H1 _ g1 R1 ?_⟩
          have := @itr_ok K G1 0 j
          rw [Int.sub_zero] at this
          exact this
    · cases h
  · cases h
theorem ei_r2 {ts : TA} {as : SA} (hs : EvA K ts as) : EvI K (iRng2 ts) (iR2 as) := by
  intro ρ M z M' h F π G H σ R S Q q
  unfold iR2 at h
  obtain ⟨⟨x, M1⟩, h1, h⟩ := Option.bind_eq_some_iff.mp h
  refine hs ρ M x M1 h1 F π G H σ R S _ fun π1 G1 H1 v1 g1 R1 s1 => ?_
  dsimp only at h
  split at h
  · rename_i i j
    split at h
    · rename_i hj
      cases h
      cases s1 with
      | cons s1 s2 =>
        cases s2 with
        | cons s2 s3 =>
          cases s3
          cases s1 with
          | dat hd =>
            cases hd
            cases s2 with
            | dat hd =>
              cases hd
              exact ⟨i, j, rfl, ⟨hj.1.1, hj.1.2, hj.2.1, hj.2.2⟩, q π1 G1 H1 _ g1 R1 itr_ok⟩
    · cases h
  · cases h
theorem ei_rv (ha : EvS K ta a) : EvI K (RT.iRevA K ta) (iRv a) := by
  intro ρ M z M' h F π G H σ R S Q q
  unfold iRv at h
  obtain ⟨⟨x, M1⟩, h1, h⟩ := Option.bind_eq_some_iff.mp h
  refine ha ρ M x M1 h1 F π G H σ R S _ fun π1 G1 H1 v1 g1 R1 s1 => ?_
  cases s1 with
  | cel _ => cases h
  | dat hd =>
    cases hd with
    | @lst l xs ds hs ha =>
      cases h
      exact ⟨l, xs, rfl, .inl ⟨R1.ex.seq hs, q π1 G1 H1 _ g1 R1 (itv_ok hs ha)⟩⟩
    | @tup l xs ds hs ha =>
      cases h
      exact ⟨l, xs, rfl, .inr ⟨same_sqT R1.ex hs, q π1 G1 H1 _ g1 R1 (itvt_ok hs ha)⟩⟩
    | _ => cases h
end
end Sm

namespace Sm
open PySem PySem.Spec PyProof.Rows L2

/-! ### defs that may be asked only where nothing is being written out (repr) -/
structure FnG (P : Program) (w : World) (K : PySem.W.Frag) (mg : Str → Option Value) (base : Heap) (k : Nat) (f : Addr) (fd : FuncData) (ps : List Str) (sp : Sp) : Prop where
  len : ∀ vs H Q E, sp vs H Q E → vs.length = ps.length
  run : ∀ (A : Around) (out : List PySem.Env) (s : Shared) (H : Hp) (args : Args) (us : List Value) (vs : List V) (Q : VK),
    Room k A → A.guards = some [] → Env0 P w K mg base A out s H → BindsTo s fd args (ps.zip us) → Vals vs us → sp vs H Q E0 →
    codeAny (model P w) A (.call (.ref f) args) (CR CX0 out P w H s Q E0) s
section
variable {P : Program} {w : World} {K : PySem.W.Frag} {mg : Str → Option Value} {base : Heap}
theorem FnG.up {j k : Nat} {f : Addr} {fd : FuncData} {ps : List Str} {sp : Sp} (F : FnG P w K mg base j f fd ps sp) (h : j ≤ k) : FnG P w K mg base k f fd ps sp :=
  ⟨F.len, fun A out s H args us vs Q hr => F.run A out s H args us vs Q (hr.mono h)⟩
/-- a def of the text, by its body -/
theorem fng_of {k : Nat} {f : Addr} {nm ql : Str} {pars : Arguments} {bd : List Stmt} {sc : Scope} {dV kV doc pm cd ct oc : Value} {an od : Option Addr} {osl : Array (Option Value)} {N ps : List Str} {sp : Sp}
    (lk : K.lookup f = some ⟨oc, od, .func (PySem.W.fnOf nm ql pars bd sc dV kV doc pm an cd ct), osl⟩)
    (hcd : PySem.W.codeIn K cd ql = true) (Sc : FnScope N ps sc) (len : ∀ vs H Q E, sp vs H Q E → vs.length = ps.length)
    (hb : ∀ (A : Around) (out : List PySem.Env) (s : Shared) (H : Hp) (vs : List V) (Q : VK),
      Room k (A.deeper (envOfC ql sc s.heap.objs.size f cd)) → A.guards = some [] → sp vs H Q E0 →
      ∃ t, PSs (cxOf CX0 P w K mg base N ql sc f cd A out s H E0).nox bd t ∧ t { nx := fun _ H' => Q .non H', rt := Q } (L2.start N vs) H) :
    FnG P w K mg base (k + 1) f (PySem.W.fnOf nm ql pars bd sc dV kV doc pm an cd ct) ps sp := by
  constructor
  · exact len
  intro A out s H args us vs Q room hgu env bnd rv want
  have inK : K.In s.heap := env.mod.kin.keeps (fun c oc hc => (env.bs c oc hc).1)
  have noLim : s.heap.NoLimit := env.mod.nolimit.keeps (fun c oc hc => (env.bs c oc hc).1)
  have kinds : ∀ y ∈ ps.zip us, sc.names.lookup y.1 = some .local ∨
      (sc.names.lookup y.1 = some .cell ∧ ((cellsFrom (s.heap.objs.size + 1) sc.names []).lookup y.1).isSome = true) := by
    rintro ⟨n, v⟩ hy
    cases Sc.par n (List.of_mem_zip hy).1 with
    | inl h => exact Or.inl h
    | inr h => exact Or.inr ⟨h, PySem.W.cellsFrom_some _ _ _ (Or.inl h)⟩
  refine codeAny_call_function room.depth (inK _ _ lk) rfl Sc.co Sc.gen rfl (PySem.W.codeRec_of inK hcd)
    (bnd _ _ _ _ ?_)
  refine wpAny_newFunctionEnv_cells Sc.kind kinds (fun ev hev st inn => ?_)
  subst hev
  refine ⟨noLim.keeps inn.toInCall.keep, codeAny_func ?_⟩
  obtain ⟨t, der, rd⟩ := hb A out s H vs Q (room.deeper _) hgu want
  have J := inv_start (CX := CX0) (mg := mg) (E := E0) Sc room.hd env (len vs H Q E0 want) rv inn
  refine wpAny_mono (der.nox.run [] st (L2.start N vs) H _ J rd) ?_ (fun _ _ z => z)
  intro fl s' hs
  cases fl with
  | brk => exact hs.elim fun _ ⟨_, _, z⟩ => False.elim z
  | cont => exact hs.elim fun _ ⟨_, _, z⟩ => False.elim z
  | next =>
    obtain ⟨σ', H', J', q⟩ := hs
    exact ⟨V.non, H', J'.os, J'.bare, J'.base, J'.hok, rfl, q⟩
  | ret u =>
    obtain ⟨v, σ', H', J', ru, q⟩ := hs
    exact ⟨v, H', J'.os, J'.bare, J'.base, J'.hok, ru, q⟩
theorem fng_fun {x ql : Str} {st : Stmt} {f : Addr} {fd : FuncData} {N ps : List Str} {k : Nat} {sp : Sp} (Fu : Fun K x ql st f fd) (Sc : FnScope N ps (defScope st)) (len : ∀ vs H Q E, sp vs H Q E → vs.length = ps.length)
    (hb : ∀ (cd : Value) (A : Around) (out : List PySem.Env) (s : Shared) (H : Hp) (vs : List V) (Q : VK),
      Room k (A.deeper (envOfC ql (defScope st) s.heap.objs.size f cd)) → A.guards = some [] → sp vs H Q E0 →
      ∃ t, PSs (cxOf CX0 P w K mg base N ql (defScope st) f cd A out s H E0).nox (defBody st) t ∧ t { nx := fun _ H' => Q .non H', rt := Q } (L2.start N vs) H) :
    FnG P w K mg base (k + 1) f fd ps sp := by
  obtain ⟨oc, od, kV, doc, pm, an, cd, ct, osl, e, lk, hcd⟩ := Fu.ex
  subst e
  exact fng_of lk hcd Sc len (hb cd)
/-- a def keeps its promise, by its body -/
theorem fn_okG {x ql : Str} {st : Stmt} {f : Addr} {fd : FuncData} {N ps : List Str} {k : Nat} {body : SS} {t : TS} (he : EvT K t body) (Fu : Fun K x ql st f fd) (Sc : FnScope N ps (defScope st))
    (hb : ∀ (cd : Value) (A : Around) (out : List PySem.Env) (s : Shared) (H : Hp),
      Room k (A.deeper (envOfC ql (defScope st) s.heap.objs.size f cd)) → A.guards = some [] →
      PSs (cxOf CX0 P w K mg base N ql (defScope st) f cd A out s H E0).nox (defBody st) t) :
    FnG P w K mg base (k + 1) f fd ps (spF K ps.length (mkF N.length body)) := by
  refine fng_fun Fu Sc (fun vs H Q E h => ?_) (fun cd A out s H vs Q hr hgu h => ?_)
  · obtain ⟨args, M, r, M', F, π, G, _, hl, _, hs, _⟩ := h
    rw [← hs.length, hl]
  · obtain ⟨args, M, r, M', F, π, G, hf, hl, R, hs, q⟩ := h
    refine ⟨t, hb cd A out s H hr hgu, ?_⟩
    unfold mkF at hf
    obtain ⟨c, hc, hf⟩ := Option.bind_eq_some_iff.mp hf
    refine he _ M c hc F π G H (L2.start N vs) R (slots_start hs) _ ?_
    cases c with
    | nx ρ M1 =>
      intro π' G' H' σ' g R' S'
      obtain ⟨π'', g2, R2, s2⟩ := fin_ok hf R.len g R' (.dat .non)
      exact q π'' G' H' _ g2 R2 s2
    | rt v M1 =>
      intro π' G' H' u g R' s'
      obtain ⟨π'', g2, R2, s2⟩ := fin_ok hf R.len g R' s'
      exact q π'' G' H' _ g2 R2 s2
    | bk _ _ => cases hf
    | ct _ _ => cases hf
/-- a def of which nothing is asked -/
theorem fn_noneG {x ql : Str} {st : Stmt} {f : Addr} {fd : FuncData} {N ps : List Str} {k : Nat} (Fu : Fun K x ql st f fd) (Sc : FnScope N ps (defScope st)) : FnG P w K mg base (k + 1) f fd ps (spF K ps.length (fun _ _ => none)) := by
  refine fng_fun Fu Sc (fun vs H Q E h => ?_) (fun cd A out s H vs Q hr hgu h => ?_)
  · obtain ⟨args, M, r, M', F, π, G, h, _⟩ := h
    cases h
  · obtain ⟨args, M, r, M', F, π, G, h, _⟩ := h
    cases h
end
/-! ### its call -/
section
variable {X : Cx} {k : Nat} {f : Addr} {fd : FuncData} {ps : List Str} {sp : Sp} {x : Str} {p pos : Pos} {e : Expr} {es : List Expr} {t : TA}
theorem run_fnG {pins : List (Addr × Obj)} {σ : L2.St} {H : Hp} {s : Shared} {Q : VK} {us : List Value} {vs : List V} (F : FnG X.prog X.w X.K X.mg X.base k f fd ps sp) (hr : Room k X.A) (hgu : X.A.guards = some []) (hb : Binds X.K fd ps [])
    (I : Inv X pins σ H s) (r : Vals vs us) (h : sp vs H Q E0) : wpAny (model X.prog X.w) X.A (call (.ref f) us) (EP X pins σ Q) X.xe s := by
  have hl : us.length = ps.length := by rw [← r.length]; exact F.len vs H Q E0 h
  have bd := hb s us I.kIn (by rw [List.append_nil]; exact hl)
  rw [List.append_nil] at bd
  refine wpAny_call (codeAny_mono (F.run X.A X.stack s H ⟨us, []⟩ us vs Q hr hgu I.env0 bd r h) ?_)
  intro res s' hq
  match res, hq with
  | .error _, hq => exact False.elim hq
  | .ok (.ret _), hq => exact I.after hq
  | .ok .next, hq => exact False.elim hq
  | .ok .brk, hq => exact False.elim hq
  | .ok .cont, hq => exact False.elim hq
theorem pe_callG (F : FnG X.prog X.w X.K X.mg X.base k f fd ps sp) (hr : Room k X.A) (hgu : X.A.guards = some []) (hg : Gl X x) (hm : X.mg x = some (.ref f)) (hk : PySem.W.keepIn X.K (.ref f) = true) (hb : Binds X.K fd ps [])
    (ha : PA X (e :: es) t) (hdb : (x == ("__debug__" : Str)) = false := by decide)
    (he : starEach (e :: es) X.env = (false, eval e X.env) :: starEach es X.env := by rfl)
    (hpl : (backTo pos (starEach es X.env)).any (·.1) = false := by rfl) :
    PE X (.Call (.Name x p) (e :: es) [] pos) (tCall sp [] E0 t) := by
  constructor
  intro pins s σ H Q I h
  refine wpAny_Call_Name_kw (ld_glob I hg hm ?_ hdb)
  have args := ha.run pos pins s σ H _ I h
  refine PySem.W.callWith_K (h₀ := X.base) I.ok.mod.kin hk (thn args ?_) he hpl
  rintro us s1 ⟨vs, H1, I1, r, q⟩
  rw [List.append_nil] at q
  exact ⟨I1.kIn, run_fnG F hr hgu hb I1 r q⟩
theorem pe_callG0 (F : FnG X.prog X.w X.K X.mg X.base k f fd ps sp) (hr : Room k X.A) (hgu : X.A.guards = some []) (hg : Gl X x) (hm : X.mg x = some (.ref f)) (hk : PySem.W.keepIn X.K (.ref f) = true) (hb : Binds X.K fd ps [])
    (hdb : (x == ("__debug__" : Str)) = false := by decide) : PE X (.Call (.Name x p) [] [] pos) (tCall sp [] E0 tNil) := by
  constructor
  intro pins s σ H Q I h
  refine wpAny_Call_Name_kw (ld_glob I hg hm ?_ hdb)
  have h' : sp [] H Q E0 := h
  exact PySem.W.callWith_K0 I.kIn hk (run_fnG (us := []) F hr hgu hb I .nil h')
end

/-! ### the law's end -/
theorem law_callG {P : Program} {w : World} {K : PySem.W.Frag} {mg mb : Str → Option Value} {k : Nat} {fa a : Addr} {fd : FuncData} {x : Str} {sp : Sp} {s1 : Shared} {us : List Value} {ns : List Int}
    (KX : K.In s1.heap) (hns : s1.heap.Ns mainGlobals mg) (hbt : s1.heap.Ns builtinsNs mb) (hbb : ∀ y : Str, y ≠ "__name__" → mb y = bootBuiltins y)
    (hlim : s1.heap.NoLimit) (hgen : s1.gens = #[]) (ha : s1.heap.get? a = some { cls := .type "list", data := .seq us.toArray })
    (hi : IntsAre us ns) (hl : ns.length ≤ sizeLine) (hr : Room k callerA)
    (F : ∀ base : Heap, K.In base → base.Ns mainGlobals mg → FnG P w K mg base k fa fd [x] sp)
    (hbind : ∀ (s : Shared) (u : Value), BindsTo s fd ⟨[u], []⟩ [(x, u)])
    (hsp : ∀ H : Hp, SqL K H a (ns.map V.int) → sp [.ref a] H (fun v _ => v = .bl true) E0) :
    codeAny (model P w) callerA (.call (.ref fa) ⟨[.ref a], []⟩)
      (fun r s' => r = .ok (.ret (.bool true)) ∧ OldK s1.heap s'.heap ∧ s'.os = s1.os ∧ AllBare s'.gens) s1 := by
  -- the script is tracked as locked, unless it is one of the module's own objects
  have main : ∀ H : Hp, SqL K H a (ns.map V.int) → HOk P w H s1.heap →
      (∀ b u, H b = some u → b = a ∧ K.lookup a = none ∧ ∃ ys, u = .frz { cls := .type "list", data := .seq us.toArray } (.lst ys)) →
      codeAny (model P w) callerA (.call (.ref fa) ⟨[.ref a], []⟩)
        (fun r s' => r = .ok (.ret (.bool true)) ∧ OldK s1.heap s'.heap ∧ s'.os = s1.os ∧ AllBare s'.gens) s1 := by
    intro H hS hok only
    have free : ∀ {b : Addr} {o : Obj} {es : Array DictEntry} {ep : Nat}, s1.heap.get? b = some o → o.data = .dict es ep → H b = none := by
      intro b o es ep e d
      match q : H b with
      | none => rfl
      | some u =>
        obtain ⟨rfl, _, _⟩ := only b u q
        rw [ha] at e
        cases e
        exact absurd d (fun z => nomatch z)
    have ns' : ∀ {b : Addr} {m : Str → Option Value}, s1.heap.Ns b m → (hidT s1.heap H).Ns b m := by
      rintro b m ⟨o, es, ep, e, d, r⟩
      exact ⟨o, es, ep, hidT_get e (free e d), d, r⟩
    have kin : K.In (hidT s1.heap H) := by
      intro b o e
      refine hidT_get (KX b o e) ?_
      match q : H b with
      | none => rfl
      | some u =>
        obtain ⟨rfl, hn, _⟩ := only b u q
        rw [hn] at e
        cases e
    obtain ⟨mc, l1, l2⟩ := hlim
    have md : Mod K mg (hidT s1.heap H) := ⟨kin, ns' hns, ⟨mb, ns' hbt, hbb⟩, ⟨mc, ns' l1, l2⟩⟩
    have env : Env0 P w K mg (hidT s1.heap H) callerA [] s1 H := by
      refine ⟨rfl, md, fun b o e => of_hidT e, Nat.le_of_eq (hidT_size _ _), trivial, ?_, hok, .of_eq hgen⟩
      intro b hb
      cases hb
    have go := (F _ kin (ns' hns)).run callerA [] s1 H ⟨[.ref a], []⟩ [.ref a] [.ref a] _ hr rfl env (hbind s1 (.ref a)) (.cons rfl .nil) (hsp H hS)
    refine codeAny_mono go ?_
    intro r s' h
    match r, h with
    | .error _, h => exact False.elim h
    | .ok .next, h => exact False.elim h
    | .ok .brk, h => exact False.elim h
    | .ok .cont, h => exact False.elim h
    | .ok (.ret u), h =>
      obtain ⟨v, H', os, bare, un, hok', ru, q⟩ := h
      have qv : v = .bl true := q
      subst qv
      have qu : u = Value.bool true := ru
      subst qu
      refine ⟨rfl, OldK.of_keep ?_, os, bare⟩
      intro b o e
      match q : H b with
      | none =>
        refine un.keep b o e q ?_ ?_
        · intro z; cases z
        · intro z; cases z
      | some u =>
        obtain ⟨rfl, _, ys, rfl⟩ := only b u q
        obtain ⟨e2, _⟩ := hok' b _ (un.frzs b _ _ q)
        rw [ha] at e
        cases e
        exact e2
  have rv : Vals (ns.map V.int) us := vals_ints hi
  match hk : K.lookup a with
  | some o =>
    have e := KX a o hk
    rw [ha] at e
    cases e
    have len : us.toArray.size ≤ sizeLine := by rw [List.size_toArray, hi.length]; exact hl
    refine main (fun _ => none) (Or.inr ⟨_, us.toArray, _, hk, rfl, rfl, rfl, len, by simpa using rv⟩) ?_ ?_
    · intro b u z; cases z
    · intro b u z; cases z
  | none =>
    refine main (upd (fun _ => none) a (.frz { cls := .type "list", data := .seq us.toArray } (.lst (ns.map V.int)))) (Or.inl (Or.inr ⟨_, upd_same⟩)) ?_ ?_
    · intro b u z
      by_cases hb : b = a
      · subst hb
        rw [upd_same] at z
        cases z
        exact ⟨ha, by rw [List.length_map]; exact hl, us, _, rv, ha⟩
      · rw [upd_ne hb] at z; cases z
    · intro b u z
      by_cases hb : b = a
      · subst hb
        rw [upd_same] at z
        cases z
        exact ⟨rfl, hk, _, rfl⟩
      · rw [upd_ne hb] at z; cases z
/-- the law holds where its plain function says True of every script -/
theorem walk_G {l : PySem.W.OpenLaw} {n k : Nat} {q : Program} {loose : List Str} {XP : (Str → Option Value) → Heap → Prop} {YP : World → Heap → Prop} {d : DefRec} {K : Params → PySem.W.Frag} {f : SF} {x : Str}
    (hn : l.most = some n) (hn2 : n ≤ sizeLine) (hdf : d.params.defaults = []) (hr : Room k callerA)
    (hY : ∀ (w : World) (h : Heap), YP w h → (K w.params).In h)
    (F : ∀ (w : World) (mg : Str → Option Value) (fa : Addr) (h : Heap), (K w.params).In h → h.Ns mainGlobals mg → mg d.name = some (.ref fa) →
      ∃ fd : FuncData, (∀ (s : Shared) (u : Value), BindsTo s fd ⟨[u], []⟩ [(x, u)]) ∧
        ∀ base : Heap, (K w.params).In base → base.Ns mainGlobals mg → FnG l.prog w (K w.params) mg base k fa fd [x] (spF (K w.params) 1 f))
    (hf : ∀ ns : List Int, ns.length ≤ n → (∀ z ∈ ns, Builtin.Int.intBits z ≤ 1048576) → ∃ M, f [.dat (.list (ns.map PyData.int))] [] = some (.dat (.bool true), M)) :
    PySem.W.WalkO q loose XP YP l.row.toRowW d [] (fun g vs => PySem.call g vs) := by
  refine Att.attach_callB hn hdf ?_
  intro w s0 s1 mg mb fa o pm cd doc a us ns G Y ho hd hcd hmg hobj hints hlen hbits hgen
  have KX := hY w _ Y
  obtain ⟨fd, bd, FF⟩ := F w mg fa _ KX G.T.g hmg
  refine law_callG KX G.T.g G.T.b G.T.builtins G.T.nolimit hgen hobj hints (Nat.le_trans hlen hn2) hr FF bd ?_
  intro H hS
  obtain ⟨M, e⟩ := hf ns hlen hbits
  have allI : ∀ (ks : List Int), DqAll (K w.params) H (ks.map V.int) (ks.map PyData.int) := by
    intro ks
    induction ks with
    | nil => exact .nil
    | cons z ks ih => exact .cons (.int z) ih
  refine ⟨_, [], _, M, fun _ => none, [], H, e, rfl, ⟨Same.refl H, ?_, rfl, ?_, ?_, ?_⟩, .cons (.dat (.lst hS (allI ns))) .nil, ?_⟩
  · intro b u z; cases z
  · intro i xs z; simp at z
  · intro i j xs ys b z; simp at z
  · intro i xs z; simp at z
  · intro π' G' H' v _ _ s'
    cases s' with
    | dat h => cases h; rfl
end Sm

namespace Sm
open PySem PySem.Spec PyProof.Rows L2

/-! ### operations on data -/
def lift2 (g : PyData → PyData → Option PyData) : Mem → SV → SV → Option SV := fun _ x y => match x, y with
  | .dat d, .dat e => (g d e).bind fun r => some (.dat r)
  | _, _ => none
def lift1 (g : PyData → Option PyData) : Mem → SV → Option SV := fun _ x => match x with
  | .dat d => (g d).bind fun r => some (.dat r)
  | _ => none
/-- by data alone -/
def OpD (K : PySem.W.Frag) (r : R2) (g : PyData → PyData → Option PyData) : Prop := ∀ x y z, g x y = some z → ∀ G H v w, Same G H → Dq K G v x → Dq K G w y →
  ∀ Q : VK, (∀ G' H' u, Al G H G' H' → Dq K G' u z → Q u H') → r v w H Q
def UnD (K : PySem.W.Frag) (r : V → Hp → VK → Prop) (g : PyData → Option PyData) : Prop := ∀ x z, g x = some z → ∀ G H v, Same G H → Dq K G v x →
  ∀ Q : VK, (∀ G' H' u, Al G H G' H' → Dq K G' u z → Q u H') → r v H Q
section
variable {K : PySem.W.Frag}
theorem os_lift {r : R2} {g : PyData → PyData → Option PyData} (h : OpD K r g) : OpS K r (lift2 g) := by
  intro M x y z e F π G H v w R sx sy Q q
  cases sx with
  | cel _ => cases y <;> cases e
  | dat dx =>
    cases sy with
    | cel _ => cases e
    | dat dy =>
      obtain ⟨r', h1, h2⟩ := Option.bind_eq_some_iff.mp e
      cases h2
      exact h _ _ _ h1 G H v w R.ex dx dy Q fun G' H' u al d => q G' H' u al (.dat d)
theorem us_lift {r : V → Hp → VK → Prop} {g : PyData → Option PyData} (h : UnD K r g) : UnS K r (lift1 g) := by
  intro M x z e F π G H v R sx Q q
  cases sx with
  | cel _ => cases e
  | dat dx =>
    obtain ⟨r', h1, h2⟩ := Option.bind_eq_some_iff.mp e
    cases h2
    exact h _ _ h1 G H v R.ex dx Q fun G' H' u al d => q G' H' u al (.dat d)

/-! ints -/
def dI (g : Int → Int → Option PyData) : PyData → PyData → Option PyData
  | .int i, .int j => g i j
  | _, _ => none
theorem od_I0 {g : Int → Int → V} {g' : Int → Int → PyData} (h : ∀ i j G, Dq K G (g i j) (g' i j)) : OpD K (rI0 g) (dI fun i j => some (g' i j)) := by
  intro x y z e G H v w sm dx dy Q q
  cases dx <;> cases dy <;> first | cases e | skip
  exact ⟨_, _, rfl, rfl, q G H _ .same (h _ _ G)⟩
theorem od_I {C : Int → Int → Prop} {g : Int → Int → V} {g' : Int → Int → PyData} {c : Int → Int → Bool} (h : ∀ i j G, Dq K G (g i j) (g' i j)) (hc : ∀ i j, c i j = true → C i j) : OpD K (rI C g) (dI fun i j => if c i j = true then some (g' i j) else none) := by
  intro x y z e G H v w sm dx dy Q q
  cases dx <;> cases dy <;> first | cases e | skip
  rename_i i j
  unfold dI at e
  dsimp only at e
  split at e
  · rename_i hh
    cases e
    exact ⟨_, _, rfl, rfl, hc _ _ hh, q G H _ .same (h _ _ G)⟩
  · cases e
def dSub : PyData → PyData → Option PyData := dI fun i j => some (.int (i - j))
def dLt : PyData → PyData → Option PyData := dI fun i j => some (.bool (decide (i < j)))
def dLe : PyData → PyData → Option PyData := dI fun i j => some (.bool (decide (i ≤ j)))
def dGt : PyData → PyData → Option PyData := dI fun i j => some (.bool (decide (j < i)))
def dGe : PyData → PyData → Option PyData := dI fun i j => some (.bool (decide (j ≤ i)))
def dDiv : PyData → PyData → Option PyData := dI fun i j => if (decide (0 < j) && decide (j < 2 ^ 64)) = true then some (.int (i / j)) else none
def dMod : PyData → PyData → Option PyData := dI fun i j => if (decide (0 < j)) = true then some (.int (i % j)) else none
def dPow : PyData → PyData → Option PyData := dI fun i j => if (decide (0 ≤ j) && decide (j ≤ 64) && decide (-(2 ^ 64) < i) && decide (i < 2 ^ 64)) = true then some (.int (i ^ j.toNat)) else none
def mulOk (i j : Int) : Bool := (decide (-(2 ^ 64) < i) && decide (i < 2 ^ 64)) || (decide (-(2 ^ 64) < j) && decide (j < 2 ^ 64))
theorem os_sub : OpS K (rI0 fun i j => .int (i - j)) (lift2 dSub) := os_lift (od_I0 fun _ _ _ => .int _)
theorem os_lt : OpS K (rI0 fun i j => .bl (decide (i < j))) (lift2 dLt) := os_lift (od_I0 fun _ _ _ => .bl _)
theorem os_le : OpS K (rI0 fun i j => .bl (decide (i ≤ j))) (lift2 dLe) := os_lift (od_I0 fun _ _ _ => .bl _)
theorem os_gt : OpS K (rI0 fun i j => .bl (decide (j < i))) (lift2 dGt) := os_lift (od_I0 fun _ _ _ => .bl _)
theorem os_ge : OpS K (rI0 fun i j => .bl (decide (j ≤ i))) (lift2 dGe) := os_lift (od_I0 fun _ _ _ => .bl _)
theorem os_div : OpS K (rI CDivW fun i j => .int (i / j)) (lift2 dDiv) := os_lift (od_I (fun _ _ _ => .int _) fun i j h => by
  rw [Bool.and_eq_true, decide_eq_true_eq, decide_eq_true_eq] at h
  exact wide_div (b := 64) h.1 (by omega) (by decide) (by decide))
theorem os_mod : OpS K (rI (fun _ j => 0 < j) fun i j => .int (i % j)) (lift2 dMod) := os_lift (od_I (fun _ _ _ => .int _) fun i j h => of_decide_eq_true h)
theorem os_pow : OpS K (rI CPow fun i j => .int (i ^ j.toNat)) (lift2 dPow) := os_lift (od_I (fun _ _ _ => .int _) fun i j h => by
  simp only [Bool.and_eq_true, decide_eq_true_eq] at h
  exact ⟨h.1.1.1, by omega, by omega⟩)

/-! + and * -/
def rCatL (K : PySem.W.Frag) : R2 := fun x y H Q => ∃ a b xs ys, x = .ref a ∧ y = .ref b ∧ SqL K H a xs ∧ SqL K H b ys ∧ xs.length + ys.length ≤ sizeLine ∧ ∀ p, H p = none → Q (.ref p) (upd H p (.lst (xs ++ ys)))
theorem op_catL {X : Cx} : OpR X (binaryOp .Add) (rCatL X.K) := by
  intro pins s σ H x y v u Q I rx ry h
  obtain ⟨a, b, xs, ys, rfl, rfl, ha, hb, hz, q⟩ := h
  cases rx
  cases ry
  obtain ⟨its, r1, p1, _⟩ := I.list ha
  obtain ⟨its2, r2, p2, _⟩ := I.list hb
  obtain ⟨⟨c1, d1, dt1, sl1⟩, n1, o1, hc1, hd1, hs1⟩ := p1
  obtain ⟨⟨c2, d2, dt2, sl2⟩, n2, o2, hc2, hd2, hs2⟩ := p2
  dsimp only at hc1 hd1 hs1 hc2 hd2 hs2
  subst hc1 hs1 hc2 hs2
  have l1 := r1.length
  have l2 := r2.length
  have ea : its.toArray ++ its2.toArray = (its ++ its2).toArray := by simp
  refine concat_meets ⟨_, o1, rfl⟩ ⟨_, o2, rfl⟩ noFill_list_add seq_list_add PySem.F.slot_list_add PySem.F.entry_list_add
    (PySem.F.args_list_add_2 _ _) (list_addW a b its.toArray its2.toArray n1 n2 d1 d2 sl1 sl2 (by simp only [List.size_toArray]; omega)) ⟨o1, o2, ?_⟩
  rw [ea]
  refine ⟨.ref s.heap.objs.size, _, I.laid (t' := s.toks) (o := .lst (xs ++ ys)) (fun b ob q => Heap.get?_push_of_some _ q) (Nat.le_refl _) ?_, rfl, q _ (I.hok.fresh (Nat.le_refl _))⟩
  exact ⟨by rw [List.length_append]; exact hz, _, 0, r1.append r2, Heap.get?_push_size _ rfl⟩
theorem OpR.or {X : Cx} {f : Value → Value → Sem Value} {r r' : R2} (h : OpR X f r) (h' : OpR X f r') : OpR X f (fun x y H Q => r x y H Q ∨ r' x y H Q) := by
  intro pins s σ H x y v u Q I rx ry q
  rcases q with q | q
  · exact h pins s σ H x y v u Q I rx ry q
  · exact h' pins s σ H x y v u Q I rx ry q
def rAddA (K : PySem.W.Frag) : R2 := fun x y H Q => rI0 (fun i j => .int (i + j)) x y H Q ∨ (rCatA K x y H Q ∨ rCatL K x y H Q)
theorem op_addA {X : Cx} : OpR X (binaryOp .Add) (rAddA X.K) := OpR.or op_add (OpR.or op_catA op_catL)
def dAdd : PyData → PyData → Option PyData
  | .int i, .int j => some (.int (i + j))
  | .tuple xs, .tuple ys => if xs.length + ys.length ≤ 100000 then some (.tuple (xs ++ ys)) else none
  | .list xs, .list ys => if xs.length + ys.length ≤ 100000 then some (.list (xs ++ ys)) else none
  | _, _ => none
theorem os_add : OpS K (rAddA K) (lift2 dAdd) := os_lift (by
  intro x y z e G H v w sm dx dy Q q
  cases dx <;> cases dy <;> first | cases e | skip
  · exact .inl ⟨_, _, rfl, rfl, q G H _ .same (.int _)⟩
  · rename_i a xs ds hs ha b ys es hs' ha'
    unfold dAdd at e
    dsimp only at e
    split at e
    · rename_i hz
      cases e
      refine .inr (.inr ⟨a, b, xs, ys, rfl, rfl, sm.seq hs, sm.seq hs', sz (by rw [ha.length, ha'.length]; exact hz), fun p hp => ?_⟩)
      have sg : Same G (upd G p (.lst (xs ++ ys))) := same_upd (none_of_same sm hp)
      exact q _ _ _ (.new hp) (.lst (SqL.of upd_same) ((ha.append ha').mono sg))
    · cases e
  · rename_i a xs ds hs ha b ys es hs' ha'
    unfold dAdd at e
    dsimp only at e
    split at e
    · rename_i hz
      cases e
      refine .inr (.inl ⟨a, b, xs, ys, rfl, rfl, same_sqT sm hs, same_sqT sm hs', sz (by rw [ha.length, ha'.length]; exact hz), fun e => ?_, fun _ e => ?_, fun _ _ p hp => ?_⟩)
      · subst e
        cases ha
        exact q G H _ .same (.tup hs' ha')
      · subst e
        cases ha'
        rw [List.append_nil] at q
        exact q G H _ .same (.tup hs ha)
      · have sg : Same G (upd G p (.tup (xs ++ ys))) := same_upd (none_of_same sm hp)
        exact q _ _ _ (.new hp) (.tup (SqT.of upd_same) ((ha.append ha').mono sg))
    · cases e)
theorem tup_mul1 (l : Addr) (its : Array Value) (n : Nat) (dd : Option Addr) (sl : Array (Option Value)) (u : Tok) :
    Meets (Builtin.«tuple.__mul__» ⟨[.ref l, .int 1 u], []⟩) (fun _ R s => s.heap.get? l = some { cls := .type "tuple", dict := dd, data := .seq its n, slots := sl } ∧ R (.ok (.ret (.ref l))) s) :=
  .of_wp fun prog w A R s h => by
    obtain ⟨hp, g, d, tk, os⟩ := s
    obtain ⟨hl, h⟩ := h
    have idx := AutoSeq1.idx_int
    have c1 : (its.isEmpty || (1 : Int) == 1) = true := by simp
    wp_walk using wpAny_loadPart' hl
    repeat (first
      | (refine wpAny_ite_false (decide_eq_false (by decide)) ?_; wp_walk using wpAny_loadPart' hl)
      | (refine wpAny_ite_true (decide_eq_true c1) ?_; wp_walk using wpAny_loadPart' hl))
    exact ⟨_, rfl, h⟩
theorem tup_mul0 (l : Addr) (its : Array Value) (n : Nat) (dd : Option Addr) (sl : Array (Option Value)) (u : Tok) (hne : its.isEmpty = false) :
    Meets (Builtin.«tuple.__mul__» ⟨[.ref l, .int 0 u], []⟩) (fun _ R s => s.heap.get? l = some { cls := .type "tuple", dict := dd, data := .seq its n, slots := sl } ∧
      R (.ok (.ret (Value.ref s.heap.objs.size))) { s with heap := s.heap.push { cls := Value.type "tuple", data := Data.seq #[] }, toks := s.toks }) :=
  .of_wp fun prog w A R s h => by
    obtain ⟨hp, g, d, tk, os⟩ := s
    obtain ⟨hl, h⟩ := h
    have idx := AutoSeq1.idx_int
    have c1 : (its.isEmpty || (0 : Int) == 1) = false := by rw [hne]; rfl
    have c2 : (decide ((0 : Int) ≤ 0) || its.isEmpty) = true := by simp
    wp_walk using wpAny_loadPart' hl
    repeat (first
      | (refine wpAny_ite_false (decide_eq_false (by decide)) ?_; wp_walk using wpAny_loadPart' hl)
      | (refine wpAny_ite_false (decide_eq_false (by rw [c1]; exact Bool.false_ne_true)) ?_; wp_walk using wpAny_loadPart' hl)
      | (refine wpAny_ite_true (decide_eq_true c2) ?_; wp_walk using wpAny_loadPart' hl))
    exact ⟨_, rfl, h⟩
/-- a tuple once, and not at all -/
def rRep01 (K : PySem.W.Frag) : R2 := fun x y H Q => ∃ l xs, x = .ref l ∧ SqT K H l xs ∧ ((y = .int 1 ∧ Q (.ref l) H) ∨ (y = .int 0 ∧ xs ≠ [] ∧ ∀ p, H p = none → Q (.ref p) (upd H p (.tup []))))
theorem op_rep01 {X : Cx} : OpR X (binaryOp .Mult) (rRep01 X.K) := by
  intro pins s σ H x y v u Q I rx ry h
  obtain ⟨l, xs, rfl, hT, h⟩ := h
  cases rx
  obtain ⟨its, r, ⟨⟨cls, dd, data, sl⟩, ho, hc, n, hd⟩, hs⟩ := I.tuple hT
  dsimp only at hc hd
  subst hc hd
  have ty : s.TypeIs (.ref l) "tuple" := ⟨_, ho, rfl⟩
  rcases h with ⟨rfl, q⟩ | ⟨rfl, hne, q⟩
  · obtain ⟨t, rfl⟩ := ry
    have fin := call_meets F.slot_tuple_mul (s := s) (A := X.A) (prog := X.prog) (w := X.w) ty F.entry_tuple_mul
      (F.args_tuple_mul_2 _ _) (tup_mul1 l its.toArray n dd sl t) (Q := EP X pins σ Q) (E := X.xe) ⟨ho, .ref l, H, I, rfl, q⟩
    refine wpAny_binaryOp_repeat_ref (T := "tuple") (U := "int") (by decide) ⟨_, ho, rfl⟩ (fun s' => typeIs_int s' 1 t) noFill_tuple_mul
      F.fills_int_mul F.slot_int_rmul repeat_tuple F.slot_int_index.lookup ?_
    exact call_meets F.slot_int_rmul (typeIs_int s 1 t) F.entry_int_rmul (F.args_int_rmul_2 _ _)
      (int_rmul_tuple 1 t l its.toArray n dd sl) ⟨ho, rfl, ⟨_, ho, rfl⟩, fin⟩
  · obtain ⟨t, rfl⟩ := ry
    have hi : its.toArray.isEmpty = false := by
      cases r with
      | nil => exact absurd rfl hne
      | cons _ _ => rfl
    have nw : Inv X pins σ (upd H s.heap.objs.size (.tup [])) { s with heap := s.heap.push { cls := Value.type "tuple", data := Data.seq #[] }, toks := s.toks } :=
      I.laid (t' := s.toks) (o := .tup []) (fun b ob q => Heap.get?_push_of_some _ q) (Nat.le_refl _) ⟨Nat.zero_le _, [], .nil, IsTup.new _ _⟩
    have fin := call_meets F.slot_tuple_mul (s := s) (A := X.A) (prog := X.prog) (w := X.w) ty F.entry_tuple_mul
      (F.args_tuple_mul_2 _ _) (tup_mul0 l its.toArray n dd sl t hi) (Q := EP X pins σ Q) (E := X.xe) ⟨ho, .ref _, _, nw, rfl, q _ (I.hok.fresh (Nat.le_refl _))⟩
    refine wpAny_binaryOp_repeat_ref (T := "tuple") (U := "int") (by decide) ⟨_, ho, rfl⟩ (fun s' => typeIs_int s' 0 t) noFill_tuple_mul
      F.fills_int_mul F.slot_int_rmul repeat_tuple F.slot_int_index.lookup ?_
    exact call_meets F.slot_int_rmul (typeIs_int s 0 t) F.entry_int_rmul (F.args_int_rmul_2 _ _)
      (int_rmul_tuple 0 t l its.toArray n dd sl) ⟨ho, rfl, ⟨_, ho, rfl⟩, fin⟩
def rMulA (K : PySem.W.Frag) : R2 := fun x y H Q => rI CMul (fun i j => .int (i * j)) x y H Q ∨ (rRepT K x y H Q ∨ rRep01 K x y H Q)
theorem op_mulA {X : Cx} : OpR X (binaryOp .Mult) (rMulA X.K) := OpR.or op_mul (OpR.or op_repT op_rep01)
def dMul : PyData → PyData → Option PyData
  | .int i, .int j => if mulOk i j = true then some (.int (i * j)) else none
  | .tuple xs, .int k => if xs ≠ [] ∧ 0 ≤ k ∧ k ≤ 1000 ∧ xs.length ≤ 1000 then some (.tuple (List.replicate k.toNat xs).flatten) else none
  | _, _ => none
theorem os_mul : OpS K (rMulA K) (lift2 dMul) := os_lift (by
  intro x y z e G H v w sm dx dy Q q
  cases dx <;> cases dy <;> first | cases e | skip
  · unfold dMul at e
    dsimp only at e
    split at e
    · rename_i hh
      cases e
      refine .inl ⟨_, _, rfl, rfl, ?_, q G H _ .same (.int _)⟩
      unfold mulOk at hh
      simp only [Bool.or_eq_true, Bool.and_eq_true, decide_eq_true_eq] at hh
      exact hh
    · cases e
  · rename_i a xs ds hs ha k
    unfold dMul at e
    dsimp only at e
    split at e
    · rename_i hh
      cases e
      have ne : xs ≠ [] := fun z => by subst z; cases ha; exact hh.1 rfl
      by_cases h2 : 2 ≤ k
      · refine .inr (.inl ⟨a, k, xs, rfl, rfl, same_sqT sm hs, ne, h2, hh.2.2.1, by rw [ha.length]; exact hh.2.2.2, fun p hp => ?_⟩)
        have sg : Same G (upd G p (.tup (List.replicate k.toNat xs).flatten)) := same_upd (none_of_same sm hp)
        exact q _ _ _ (.new hp) (.tup (SqT.of upd_same) ((DqAll.flat k.toNat ha).mono sg))
      · have k01 : k = 1 ∨ k = 0 := by omega
        rcases k01 with rfl | rfl
        · refine .inr (.inr ⟨a, xs, rfl, same_sqT sm hs, .inl ⟨rfl, q G H _ .same ?_⟩⟩)
          have e1 : (List.replicate (1 : Int).toNat ds).flatten = ds := by simp
          rw [e1]
          exact .tup hs ha
        · refine .inr (.inr ⟨a, xs, rfl, same_sqT sm hs, .inr ⟨rfl, ne, fun p hp => ?_⟩⟩)
          exact q _ _ _ (.new hp) (.tup (SqT.of upd_same) .nil)
    · cases e)
def dNeg : PyData → Option PyData
  | .int i => some (.int (-i))
  | _ => none
theorem us_neg : UnS K (rU fun i => .int (-i)) (lift1 dNeg) := us_lift (by
  intro x z e G H v sm dx Q q
  cases dx <;> first | cases e | skip
  exact ⟨_, rfl, q G H _ .same (.int _)⟩)

/-! == and != -/
mutual
theorem Dq.dp {G H : Hp} (sm : Same G H) : ∀ (d : PyData) (v : V), d.canLay0 = true → Dq K G v d → Dp K H v d
  | .none, _, _, h => by cases h; exact .non
  | .bool b, _, _, h => by cases h; exact .bl b
  | .int i, _, _, h => by cases h; exact .int i
  | .str x, _, _, h => by cases h; exact .str x
  | .list ds, _, c, h => by
    cases h with
    | lst hs ha => exact .lst (sm.seq hs) (Dq.dpAll sm ds _ (by simpa [PyData.canLay0] using c) ha)
  | .tuple ds, _, c, h => by
    cases h with
    | tup hs ha => exact .tup (same_sqT sm hs) (Dq.dpAll sm ds _ (by simpa [PyData.canLay0] using c) ha)
  | .dict ds, _, c, _ => by simp [PyData.canLay0] at c
theorem Dq.dpAll {G H : Hp} (sm : Same G H) : ∀ (ds : List PyData) (vs : List V), PyData.canLayAll0 ds = true → DqAll K G vs ds → DpAll K H vs ds
  | [], _, _, h => by cases h; exact .nil
  | d :: ds, _, c, h => by
    cases h with
    | cons h1 h2 =>
      have c' : d.canLay0 = true ∧ PyData.canLayAll0 ds = true := by simpa [PyData.canLayAll0] using c
      exact .cons (Dq.dp sm d _ c'.1 h1) (Dq.dpAll sm ds _ c'.2 h2)
end
def lenNe : PyData → PyData → Bool
  | .list xs, .list ys => !(xs.length == ys.length)
  | _, _ => false
def dEq : PyData → PyData → Option PyData
  | .int i, .int j => some (.bool (i == j))
  | .str x, .str y => some (.bool (x == y))
  | d, e => if (SeqAt.shaped d && SeqAt.shaped e) = true then some (.bool (PyData.eqv d e)) else if lenNe d e = true then some (.bool false) else none
def dNe : PyData → PyData → Option PyData
  | .int i, .int j => some (.bool (!(i == j)))
  | .str x, .str y => some (.bool (!(x == y)))
  | d, e => if (SeqAt.shaped d && SeqAt.shaped e) = true then some (.bool (!PyData.eqv d e)) else none
theorem sh_int (i : Int) : SeqAt.shaped (.int i) = true := by simp [SeqAt.shaped, PyData.canLay0, PyData.depth]
def rEqZ (K : PySem.W.Frag) : R2 := fun x y H Q => ∃ a b xs ys, x = .ref a ∧ y = .ref b ∧ SqL K H a xs ∧ SqL K H b ys ∧ xs.length ≠ ys.length ∧ Q (.bl false) H
theorem op_eqZ {X : Cx} (hu : X.A.units + 64 < cLine) : OpR X (compareOp .Eq) (rEqZ X.K) := by
  intro pins s σ H x y v u Q I rx ry h
  obtain ⟨a, b, xs, ys, rfl, rfl, ha, hb, hz, q⟩ := h
  cases rx
  cases ry
  obtain ⟨its, r1, p1, _⟩ := I.list ha
  obtain ⟨its2, r2, p2, _⟩ := I.list hb
  obtain ⟨o1, n1, g1, hc1, _, hd1⟩ := p1
  obtain ⟨o2, n2, g2, hc2, _, hd2⟩ := p2
  have l1 := r1.length
  have l2 := r2.length
  exact SeqAt.eq_list_lengthsAt ⟨o1, g1, hc1, n1, hd1⟩ ⟨o2, g2, hc2, n2, hd2⟩ (by simp; omega) (by omega) ⟨.bl false, H, I, rfl, q⟩
def rEqA (K : PySem.W.Frag) : R2 := fun x y H Q => rEqD K x y H Q ∨ (rEq x y H Q ∨ rEqZ K x y H Q)
def rNeA (K : PySem.W.Frag) : R2 := fun x y H Q => rNeD K x y H Q ∨ rNe x y H Q
theorem op_eqA {X : Cx} (hu : X.A.units + 64 < cLine) : OpR X (compareOp .Eq) (rEqA X.K) := OpR.or (op_eqD hu) (OpR.or op_eq (op_eqZ hu))
theorem op_neA {X : Cx} (hu : X.A.units + 64 < cLine) : OpR X (compareOp .NotEq) (rNeA X.K) := OpR.or (op_neD hu) op_ne
theorem os_eq : OpS K (rEqA K) (lift2 dEq) := os_lift (by
  intro x y z e G H v w sm dx dy Q q
  have gen : SeqAt.shaped x = true → SeqAt.shaped y = true → z = .bool (PyData.eqv x y) → rEqA K v w H Q := fun h1 h2 hz =>
    .inl ⟨x, y, Dq.dp sm x v (SeqAt.canLay_of_shaped h1) dx, Dq.dp sm y w (SeqAt.canLay_of_shaped h2) dy, h1, h2, q G H _ .same (by rw [hz]; exact .bl _)⟩
  unfold dEq at e
  split at e
  · cases e
    exact gen (sh_int _) (sh_int _) (by simp [PyData.eqv])
  · cases e
    cases dx
    cases dy
    refine .inr (.inl ⟨rfl, ?_⟩)
    rw [dec_str]
    exact q G H _ .same (.bl _)
  · split at e
    · rename_i hh
      rw [Bool.and_eq_true] at hh
      cases e
      exact gen hh.1 hh.2 rfl
    · split at e
      · rename_i hh
        cases e
        unfold lenNe at hh
        split at hh
        · cases dx with
          | lst hs ha =>
            cases dy with
            | lst hs' ha' =>
              refine .inr (.inr ⟨_, _, _, _, rfl, rfl, sm.seq hs, sm.seq hs', ?_, q G H _ .same (.bl _)⟩)
              rw [ha.length, ha'.length]
              simpa using hh
        · cases hh
      · cases e)
theorem os_ne : OpS K (rNeA K) (lift2 dNe) := os_lift (by
  intro x y z e G H v w sm dx dy Q q
  have gen : SeqAt.shaped x = true → SeqAt.shaped y = true → z = .bool (!PyData.eqv x y) → rNeA K v w H Q := fun h1 h2 hz =>
    .inl ⟨x, y, Dq.dp sm x v (SeqAt.canLay_of_shaped h1) dx, Dq.dp sm y w (SeqAt.canLay_of_shaped h2) dy, h1, h2, q G H _ .same (by rw [hz]; exact .bl _)⟩
  unfold dNe at e
  split at e
  · cases e
    exact gen (sh_int _) (sh_int _) (by simp [PyData.eqv])
  · cases e
    cases dx
    cases dy
    refine .inr ⟨rfl, ?_⟩
    rw [dec_str]
    exact q G H _ .same (.bl _)
  · split at e
    · rename_i hh
      rw [Bool.and_eq_true] at hh
      cases e
      exact gen hh.1 hh.2 rfl
    · cases e)
theorem room64 {X : Cx} {k : Nat} (hr : Room k X.A) : X.A.units + 64 < cLine := by have := hr.un; omega

/-! is None -/
def dIsN : PyData → PyData → Option PyData
  | .none, .none => some (.bool true)
  | .dict _, .none => some (.bool false)
  | .list _, .none => some (.bool false)
  | .tuple _, .none => some (.bool false)
  | .int _, .none => some (.bool false)
  | .str _, .none => some (.bool false)
  | .bool _, .none => some (.bool false)
  | _, _ => none
def rIsN' : R2 := fun x y H Q => y = .non ∧ Q (.bl (decide (x = .non))) H
theorem os_isN : OpS K rIsN' (lift2 dIsN) := os_lift (by
  intro x y z e G H v w sm dx dy Q q
  cases dy <;> (cases dx <;> first | cases e | skip)
  all_goals exact ⟨rfl, q G H _ .same (.bl _)⟩)

/-! in -/
def flatD : PyData → Bool
  | .none => true
  | .bool _ => true
  | .int _ => true
  | .str _ => true
  | _ => false
def inD (x : PyData) (xs : List PyData) : Bool := xs.any fun y => PyData.eqv y x
theorem flat_of {G : Hp} {v : V} {d : PyData} (h : Dq K G v d) (f : flatD d = true) : flatV v = true := by
  cases h <;> first | rfl | (simp [flatD] at f)
theorem eqV_of {G : Hp} {v w : V} {d e : PyData} (h : Dq K G v d) (h' : Dq K G w e) (f : flatD d = true) (f' : flatD e = true) : eqV v w = PyData.eqv d e := by
  cases h with
  | non => cases h' <;> first | (simp [eqV, PyData.eqv]; done) | (simp [flatD] at f')
  | bl b => cases h' <;> first | (simp [eqV, PyData.eqv]; done) | (simp [flatD] at f')
  | int i => cases h' <;> first | (simp [eqV, PyData.eqv]; done) | (simp [flatD] at f')
  | str x => cases h' <;> first | (simp [eqV, PyData.eqv]; done) | (simp [flatD] at f')
  | lst _ _ => simp [flatD] at f
  | tup _ _ => simp [flatD] at f
  | dic _ _ => simp [flatD] at f
theorem flats_of {G : Hp} : ∀ {vs : List V} {ds : List PyData}, DqAll K G vs ds → ds.all flatD = true → vs.all flatV = true
  | _, _, .nil, _ => rfl
  | _, _, .cons h r, f => by
    rw [List.all_cons, Bool.and_eq_true] at f ⊢
    exact ⟨flat_of h f.1, flats_of r f.2⟩
theorem inV_of {G : Hp} {w : V} {e : PyData} (h' : Dq K G w e) (f' : flatD e = true) : ∀ {vs : List V} {ds : List PyData}, DqAll K G vs ds → ds.all flatD = true → inV w vs = inD e ds
  | _, _, .nil, _ => rfl
  | _, _, .cons h r, f => by
    rw [List.all_cons, Bool.and_eq_true] at f
    have ih := inV_of h' f' r f.2
    unfold inV inD at *
    rw [List.any_cons, List.any_cons, ih, eqV_of h h' f.1 f']
/-- the data of a list or tuple, held still or not -/
def items (M : Mem) : SV → Option (List PyData)
  | .dat (.list ds) => some ds
  | .dat (.tuple ds) => some ds
  | .cel i => match M[i]? with
    | some (some xs) => dats xs
    | _ => none
  | _ => none
theorem items_sq {F : Hp} {π : List Addr} {G H : Hp} {M : Mem} {x : SV} {v : V} {ds : List PyData} (R : Rel K F π G H M) (s : Sv K π G x v) (h : items M x = some ds) : ∃ a xs, v = .ref a ∧ (SqL K H a xs ∨ SqT K H a xs) ∧ DqAll K G xs ds := by
  cases s with
  | dat hd =>
    cases hd <;> first | cases h | skip
    · rename_i a xs hs ha; exact ⟨a, xs, rfl, .inl (R.ex.seq hs), ha⟩
    · rename_i a xs hs ha; exact ⟨a, xs, rfl, .inr (same_sqT R.ex hs), ha⟩
  | @cel i a e =>
    unfold items at h
    dsimp only at h
    split at h
    · rename_i ys hy
      obtain ⟨a', vs, h1, h2, h3, h4, h5⟩ := R.mem i ys hy
      rw [e] at h1; cases h1
      exact ⟨a, vs, rfl, .inl (SqL.of h4), dats_all h h5⟩
    · cases h
def fIn (neg : Bool) : Mem → SV → SV → Option SV := fun M x y => match x with
  | .dat d => (items M y).bind fun ds => if (flatD d && ds.all flatD) = true then some (.dat (.bool (if neg then !inD d ds else inD d ds))) else none
  | _ => none
theorem os_in {neg : Bool} : OpS K (rIn K neg) (fIn neg) := by
  intro M x y z e F π G H v w R sx sy Q q
  cases sx with
  | cel _ => cases e
  | dat dx =>
    unfold fIn at e
    obtain ⟨ds, h1, e⟩ := Option.bind_eq_some_iff.mp e
    split at e
    · rename_i hh
      rw [Bool.and_eq_true] at hh
      cases e
      obtain ⟨a, xs, rfl, hs, ha⟩ := items_sq R sy h1
      refine ⟨a, xs, rfl, hs, flat_of dx hh.1, flats_of ha hh.2, ?_⟩
      rw [inV_of dx hh.1 ha hh.2]
      exact q G H _ .same (.dat (.bl _))
    · cases e

/-! an item -/
def fIx : Mem → SV → SV → Option SV := fun M x y => match x, y with
  | .dat (.list ds), .dat (.int i) => (atI ds i).bind fun d => some (.dat d)
  | .dat (.tuple ds), .dat (.int i) => (atI ds i).bind fun d => some (.dat d)
  | .cel c, .dat (.int i) => match M[c]? with
    | some (some xs) => atI xs i
    | _ => none
  | _, _ => none
theorem atI_of {α β : Type} {xs : List α} {ys : List β} {i : Int} {y : β} (hl : xs.length = ys.length) (h : atI ys i = some y) : ∃ j : Nat, ys[j]? = some y ∧ ∀ x, xs[j]? = some x → atI xs i = some x := by
  unfold atI at h ⊢
  obtain ⟨j, h1, h2⟩ := Option.bind_eq_some_iff.mp h
  refine ⟨j, h2, fun x hx => ?_⟩
  rw [hl, h1]
  exact hx
theorem os_ix : OpS K (rIx K) fIx := by
  intro M x y z e F π G H v w R sx sy Q q
  unfold fIx at e
  split at e
  · rename_i ds i
    obtain ⟨d, h1, e⟩ := Option.bind_eq_some_iff.mp e
    cases e
    cases sy with
    | dat dy =>
      cases dy
      cases sx with
      | dat dx =>
        cases dx with
        | @lst a xs _ hs ha =>
          obtain ⟨j, h2, h3⟩ := atI_of ha.length h1
          obtain ⟨u, hu, du⟩ := ha.get' h2
          exact .inl ⟨a, xs, i, u, rfl, rfl, R.ex.seq hs, h3 u hu, q G H u .same (.dat du)⟩
  · rename_i ds i
    obtain ⟨d, h1, e⟩ := Option.bind_eq_some_iff.mp e
    cases e
    cases sy with
    | dat dy =>
      cases dy
      cases sx with
      | dat dx =>
        cases dx with
        | @tup a xs _ hs ha =>
          obtain ⟨j, h2, h3⟩ := atI_of ha.length h1
          obtain ⟨u, hu, du⟩ := ha.get' h2
          exact .inr (.inl ⟨a, xs, i, u, rfl, rfl, same_sqT R.ex hs, h3 u hu, q G H u .same (.dat du)⟩)
  · rename_i c i
    split at e
    · rename_i ys hy
      cases sy with
      | dat dy =>
        cases dy
        cases sx with
        | @cel _ a ea =>
          obtain ⟨a', vs, h1, h2, h3, h4, h5⟩ := R.mem c ys hy
          rw [ea] at h1; cases h1
          obtain ⟨j, h6, h7⟩ := atI_of h5.length.symm e
          obtain ⟨u, hu, du⟩ := h5.get h6
          exact .inl ⟨a, vs, i, u, rfl, rfl, SqL.of h4, h7 u hu, q G H u .same du⟩
    · cases e
  · cases e

/-! slices -/
def cutD (ds : List PyData) (lo hi : Option Int) : List PyData := (ds.drop (HT.sIx ds.length 0 lo)).take (HT.sIx ds.length ds.length hi - HT.sIx ds.length 0 lo)
def rSlS (K : PySem.W.Frag) : V → Option Int → Option Int → Hp → VK → Prop := fun x l u H Q => rSlL K x l u H Q ∨ rSlA K x l u H Q
theorem sl_seq {X : Cx} : SlR X (rSlS X.K) := by
  intro pins s σ H x v vl vu lo hi sl Q I rx hs pl pu h
  rcases h with h | h
  · exact sl_list pins s σ H x v vl vu lo hi sl Q I rx hs pl pu h
  · exact sl_tupA pins s σ H x v vl vu lo hi sl Q I rx hs pl pu h
def fSl : Mem → SV → Option Int → Option Int → Option SV := fun _ x l u => match x with
  | .dat (.list ds) => some (.dat (.list (cutD ds l u)))
  | .dat (.tuple ds) => some (.dat (.tuple (cutD ds l u)))
  | _ => none
theorem cut_all {G : Hp} {xs : List V} {ds : List PyData} (h : DqAll K G xs ds) (l u : Option Int) : DqAll K G (cutV xs l u) (cutD ds l u) := by
  unfold cutV cutD
  rw [h.length]
  exact (h.drop _).take _
theorem ss_sl : SlS K (rSlS K) fSl := by
  intro M x l u z e F π G H v R sx Q q
  unfold fSl at e
  split at e
  · cases e
    cases sx with
    | dat dx =>
      cases dx with
      | @lst a xs _ hs ha =>
        refine .inl ⟨a, xs, rfl, R.ex.seq hs, fun p hp => ?_⟩
        have sg : Same G (upd G p (.lst (cutV xs l u))) := same_upd (none_of_same R.ex hp)
        exact q _ _ _ (.new hp) (.dat (.lst (SqL.of upd_same) ((cut_all ha l u).mono sg)))
  · rename_i ds
    cases e
    cases sx with
    | dat dx =>
      cases dx with
      | @tup a xs _ hs ha =>
        refine .inr ⟨a, xs, rfl, same_sqT R.ex hs, fun hw => ?_, fun _ p hp => ?_⟩
        · have ew : cutD ds l u = ds := by
            rw [ha.length] at hw
            unfold cutD
            rw [hw.1, hw.2]
            simp
          rw [ew] at q
          exact q G H _ .same (.dat (.tup hs ha))
        · have sg : Same G (upd G p (.tup (cutV xs l u))) := same_upd (none_of_same R.ex hp)
          exact q _ _ _ (.new hp) (.dat (.tup (SqT.of upd_same) ((cut_all ha l u).mono sg)))
  · cases e

/-! calls of built-ins -/
def one (f : Mem → SV → Option SV) : Mem → List SV → Option SV := fun M xs => match xs with
  | [x] => f M x
  | _ => none
theorem cs_one {r : V → Hp → VK → Prop} {f : Mem → SV → Option SV} (h : UnS K r f) : CaS K (fun xs H Q => ∃ x, xs = [x] ∧ r x H Q) (one f) := by
  intro M xs z e F π G H vs R s Q q
  unfold one at e
  split at e
  · cases s with
    | cons s1 s2 =>
      cases s2
      exact ⟨_, rfl, h M _ z e F π G H _ R s1 Q q⟩
  · cases e
/-- len -/
def rLen1 (K : PySem.W.Frag) : V → Hp → VK → Prop := fun x H Q => ∃ p ys, x = .ref p ∧ (SqL K H p ys ∨ SqT K H p ys) ∧ Q (.int ys.length) H
theorem call_len1 {X : Cx} : CallR X (.builtin "len") (fun xs H Q => ∃ x, xs = [x] ∧ rLen1 X.K x H Q) := by
  intro pins s σ H xs us Q I r h
  obtain ⟨x, rfl, p, ys, rfl, hs, q⟩ := h
  exact call_len_seq pins s σ H _ us Q I r ⟨p, ys, rfl, hs, q⟩
def fLen : Mem → SV → Option SV := fun M x => match x with
  | .dat (.list ds) => some (.dat (.int ds.length))
  | .dat (.tuple ds) => some (.dat (.int ds.length))
  | .cel i => match M[i]? with
    | some (some xs) => some (.dat (.int xs.length))
    | _ => none
  | _ => none
theorem us_len : UnS K (rLen1 K) fLen := by
  intro M x z e F π G H v R s Q q
  unfold fLen at e
  split at e
  · cases e
    cases s with
    | dat d =>
      cases d with
      | lst hs ha => exact ⟨_, _, rfl, .inl (R.ex.seq hs), by rw [ha.length]; exact q G H _ .same (.dat (.int _))⟩
  · cases e
    cases s with
    | dat d =>
      cases d with
      | tup hs ha => exact ⟨_, _, rfl, .inr (same_sqT R.ex hs), by rw [ha.length]; exact q G H _ .same (.dat (.int _))⟩
  · rename_i i
    split at e
    · rename_i xs hx
      cases e
      cases s with
      | @cel _ a ea =>
        obtain ⟨a', vs, h1, h2, h3, h4, h5⟩ := R.mem i xs hx
        rw [ea] at h1; cases h1
        exact ⟨a, vs, rfl, .inl (SqL.of h4), by rw [← h5.length]; exact q G H _ .same (.dat (.int _))⟩
    · cases e
  · cases e
def rAbs1 : V → Hp → VK → Prop := fun x H Q => ∃ i, x = .int i ∧ Q (.int (if i < 0 then -i else i)) H
theorem call_abs1 {X : Cx} : CallR X (.builtin "abs") (fun xs H Q => ∃ x, xs = [x] ∧ rAbs1 x H Q) := by
  intro pins s σ H xs us Q I r h
  obtain ⟨x, rfl, i, rfl, q⟩ := h
  exact call_abs pins s σ H _ us Q I r ⟨i, rfl, q⟩
def dAbs : PyData → Option PyData
  | .int i => some (.int (if i < 0 then -i else i))
  | _ => none
theorem us_abs : UnS K rAbs1 (lift1 dAbs) := us_lift (by
  intro x z e G H v sm dx Q q
  cases dx <;> first | cases e | skip
  exact ⟨_, rfl, q G H _ .same (.int _)⟩)
def rInt1 : V → Hp → VK → Prop := fun x H Q => (∃ i, x = .int i ∧ Q (.int i) H) ∨ ∃ k, x = .bl k ∧ Q (.int (if k then 1 else 0)) H
theorem call_int1' {X : Cx} : CallR X (.type "int") (fun xs H Q => ∃ x, xs = [x] ∧ rInt1 x H Q) := by
  intro pins s σ H xs us Q I r h
  obtain ⟨x, rfl, h⟩ := h
  refine call_int1 pins s σ H _ us Q I r ?_
  rcases h with ⟨i, rfl, q⟩ | ⟨i, rfl, q⟩
  · exact .inl ⟨i, rfl, q⟩
  · exact .inr ⟨i, rfl, q⟩
def dInt : PyData → Option PyData
  | .int i => some (.int i)
  | .bool b => some (.int (if b then 1 else 0))
  | _ => none
theorem us_int : UnS K rInt1 (lift1 dInt) := us_lift (by
  intro x z e G H v sm dx Q q
  cases dx <;> first | cases e | skip
  · exact .inr ⟨_, rfl, q G H _ .same (.int _)⟩
  · exact .inl ⟨_, rfl, q G H _ .same (.int _)⟩)
def rTup1 (K : PySem.W.Frag) : V → Hp → VK → Prop := fun x H Q => ∃ p ys, x = .ref p ∧ ((SqL K H p ys ∧ ∀ l, H l = none → Q (.ref l) (upd H l (.tup ys))) ∨ (SqT K H p ys ∧ Q (.ref p) H))
theorem call_tuple1 {X : Cx} : CallR X (.type "tuple") (fun xs H Q => ∃ x, xs = [x] ∧ rTup1 X.K x H Q) := by
  intro pins s σ H xs us Q I r h
  obtain ⟨x, rfl, p, ys, rfl, q⟩ := h
  exact call_tuple_of pins s σ H _ us Q I r ⟨p, ys, rfl, q⟩
def rLst1 (K : PySem.W.Frag) : V → Hp → VK → Prop := fun x H Q => ∃ p ys, x = .ref p ∧ (SqL K H p ys ∨ SqT K H p ys) ∧ ∀ l, H l = none → Q (.ref l) (upd H l (.lst ys))
theorem call_list1 {X : Cx} : CallR X (.type "list") (fun xs H Q => ∃ x, xs = [x] ∧ rLst1 X.K x H Q) := by
  intro pins s σ H xs us Q I r h
  obtain ⟨x, rfl, p, ys, rfl, q⟩ := h
  exact call_list_of pins s σ H _ us Q I r ⟨p, ys, rfl, q⟩
def fTuple : Mem → SV → Option SV := fun M x => (items M x).bind fun ds => some (.dat (.tuple ds))
def fList : Mem → SV → Option SV := fun M x => (items M x).bind fun ds => some (.dat (.list ds))
theorem us_tuple : UnS K (rTup1 K) fTuple := by
  intro M x z e F π G H v R s Q q
  unfold fTuple at e
  obtain ⟨ds, h1, e⟩ := Option.bind_eq_some_iff.mp e
  cases e
  cases s with
  | dat d =>
    cases d <;> first | cases h1 | skip
    · rename_i a xs hs ha
      refine ⟨a, xs, rfl, .inl ⟨R.ex.seq hs, fun p hp => ?_⟩⟩
      exact q _ _ _ (.new hp) (.dat (.tup (SqT.of upd_same) (ha.mono (same_upd (none_of_same R.ex hp)))))
    · rename_i a xs hs ha
      exact ⟨a, xs, rfl, .inr ⟨same_sqT R.ex hs, q G H _ .same (.dat (.tup hs ha))⟩⟩
  | @cel i a ea =>
    unfold items at h1
    dsimp only at h1
    split at h1
    · rename_i ys hy
      obtain ⟨a', vs, p1, p2, p3, p4, p5⟩ := R.mem i ys hy
      rw [ea] at p1; cases p1
      refine ⟨a, vs, rfl, .inl ⟨SqL.of p4, fun p hp => ?_⟩⟩
      exact q _ _ _ (.new hp) (.dat (.tup (SqT.of upd_same) ((dats_all h1 p5).mono (same_upd (none_of_same R.ex hp)))))
    · cases h1
theorem us_list : UnS K (rLst1 K) fList := by
  intro M x z e F π G H v R s Q q
  unfold fList at e
  obtain ⟨ds, h1, e⟩ := Option.bind_eq_some_iff.mp e
  cases e
  obtain ⟨a, xs, rfl, hs, ha⟩ := items_sq R s h1
  exact ⟨a, xs, rfl, hs, fun p hp => q _ _ _ (.new hp) (.dat (.lst (SqL.of upd_same) (ha.mono (same_upd (none_of_same R.ex hp)))))⟩

/-! isinstance -/
def tyD : PyData → String
  | .none => "NoneType"
  | .bool _ => "bool"
  | .int _ => "int"
  | .str _ => "str"
  | .list _ => "list"
  | .tuple _ => "tuple"
  | .dict _ => "dict"
def rIsi1 (K : PySem.W.Frag) (T : String) : V → Hp → VK → Prop := fun x H Q => ∃ (t : String) (b : Bool), TyX K H x (.type t) ∧ kitB t T = some b ∧ Q (.bl b) H
theorem call_isi1 {X : Cx} {T : String} : CallR X (.builtin "isinstance") (fun xs H Q => ∃ x, xs = [x, .ty T] ∧ rIsi1 X.K T x H Q) := by
  intro pins s σ H xs us Q I r h
  obtain ⟨x, rfl, t, b, ht, hb, q⟩ := h
  exact call_isi pins s σ H _ us Q I r ⟨x, .ty T, _, _, b, rfl, .ty T, ht, kit_ty hb, q⟩
theorem tyx_of {G H : Hp} (sm : Same G H) {v : V} {d : PyData} (h : Dq K G v d) : TyX K H v (.type (tyD d)) := by
  cases h with
  | non => exact .base .non
  | bl b => exact .base (.bl b)
  | int i => exact .base (.int i)
  | str x => exact .base (.str x)
  | lst hs ha =>
    rcases sm.seq hs with (h | ⟨o, h⟩) | ⟨o, its, n, h1, h2, _⟩
    · exact .base (.lst h)
    · exact .base (.frz h)
    · exact .kList h1 h2
  | tup hs ha =>
    rcases same_sqT sm hs with (h | ⟨o, h⟩) | ⟨o, its, n, h1, h2, _⟩
    · exact .base (.tup h)
    · exact .fTuple h
    · exact .kTuple h1 h2
  | dic hs ha => exact .fDict (sm _ _ hs)
def fIsi (T : String) : Mem → SV → Option SV := lift1 fun d => (kitB (tyD d) T).bind fun b => some (.bool b)
theorem us_isi {T : String} : UnS K (rIsi1 K T) (fIsi T) := us_lift (by
  intro x z e G H v sm dx Q q
  obtain ⟨b, h1, h2⟩ := Option.bind_eq_some_iff.mp e
  cases h2
  exact ⟨tyD x, b, tyx_of sm dx, h1, q G H _ .same (.bl b)⟩)
/-- the call of isinstance as an expression: its second argument a built-in type's name -/
def tIsi (K : PySem.W.Frag) (T : String) (ta : TE) : TE := fun σ H Q => ta σ H fun x H1 => rIsi1 K T x H1 Q
theorem pe_isi {X : Cx} {T : String} {y : Str} {a : Expr} {ta : TE} {p p2 pos : Pos} (hg : Gl X "isinstance") (hm : X.mg "isinstance" = none) (hg2 : Gl X y) (hm2 : X.mg y = none) (hv : bootBuiltins y = some (.type T)) (ha : PE X a ta)
    (he : starEach [a, .Name y p2] X.env = (false, eval a X.env) :: starEach [.Name y p2] X.env := by rfl) (hpl : (backTo pos (starEach [.Name y p2] X.env)).any (·.1) = false := by rfl) (hn : y ≠ "__name__" := by decide) (hdb : (y == ("__debug__" : Str)) = false := by decide) :
    PE X (.Call (.Name "isinstance" p) [a, .Name y p2] [] pos) (tIsi X.K T ta) := by
  have h := pe_callB (X := X) (x := "isinstance") (p := p) (pos := pos) (call_isi1 (T := T)) hg hm (by decide +kernel) (pa_cons ha (pa_cons (pe_bltn (v := .ty T) hg2 hm2 hv rfl hn hdb) pa_nil) he) (by decide) (by decide) he hpl
  refine ⟨fun pins s σ H Q I q => h.run pins s σ H Q I ?_⟩
  refine Eq.mp (congrArg (fun k => ta σ H k) (funext fun x => funext fun H1 => propext ⟨fun z => ?_, fun z => ?_⟩)) q
  · exact ⟨x, rfl, z⟩
  · obtain ⟨x', e, z⟩ := z
    cases e
    exact z
theorem ev_isi {T : String} {ta : TE} {a : SE} (ha : EvS K ta a) : EvS K (tIsi K T ta) (eUn (fIsi T) a) := ev_un ha us_isi

/-! all, sum, sorted -/
def boolsOf : List PyData → Option (List Bool)
  | [] => some []
  | .bool b :: r => (boolsOf r).bind fun bs => some (b :: bs)
  | _ :: _ => none
def intsOf : List PyData → Option (List Int)
  | [] => some []
  | .int b :: r => (intsOf r).bind fun bs => some (b :: bs)
  | _ :: _ => none
theorem bools_of {G : Hp} : ∀ {vs : List V} {ds : List PyData} {bs : List Bool}, DqAll K G vs ds → boolsOf ds = some bs → vs = bs.map V.bl
  | _, _, _, .nil, h => by cases h; rfl
  | _, _, _, .cons h r, e => by
    cases h <;> first | cases e | skip
    unfold boolsOf at e
    obtain ⟨bs, h1, e⟩ := Option.bind_eq_some_iff.mp e
    cases e
    rw [bools_of r h1]; rfl
theorem ints_of {G : Hp} : ∀ {vs : List V} {ds : List PyData} {bs : List Int}, DqAll K G vs ds → intsOf ds = some bs → vs = bs.map V.int
  | _, _, _, .nil, h => by cases h; rfl
  | _, _, _, .cons h r, e => by
    cases h <;> first | cases e | skip
    unfold intsOf at e
    obtain ⟨bs, h1, e⟩ := Option.bind_eq_some_iff.mp e
    cases e
    rw [ints_of r h1]; rfl
def rAll1 (K : PySem.W.Frag) : V → Hp → VK → Prop := fun x H Q => ∃ (a : Addr) (bs : List Bool), x = .ref a ∧ SqL K H a (bs.map V.bl) ∧ Q (.bl (bs.all id)) H
theorem call_all1 {X : Cx} (hc : X.calm = true) : CallR X (.builtin "all") (fun xs H Q => ∃ x, xs = [x] ∧ rAll1 X.K x H Q) := by
  intro pins s σ H xs us Q I r h
  obtain ⟨x, rfl, p, ys, rfl, q⟩ := h
  exact cr_all hc pins s σ H _ us Q I r ⟨p, ys, rfl, q⟩
def dAll : PyData → Option PyData
  | .list ds => (boolsOf ds).bind fun bs => some (.bool (bs.all id))
  | _ => none
theorem us_all : UnS K (rAll1 K) (lift1 dAll) := us_lift (by
  intro x z e G H v sm dx Q q
  cases dx <;> first | cases e | skip
  rename_i a xs ds hs ha
  obtain ⟨bs, h1, e⟩ := Option.bind_eq_some_iff.mp e
  cases e
  have e := bools_of ha h1
  subst e
  exact ⟨a, bs, rfl, sm.seq hs, q G H _ .same (.bl _)⟩)
def rSum1 (K : PySem.W.Frag) : V → Hp → VK → Prop := fun x H Q => ∃ (a : Addr) (ns : List Int), x = .ref a ∧ SqL K H a (ns.map V.int) ∧ Q (.int ns.sum) H
theorem call_sum1 {X : Cx} (hc : X.calm = true) : CallR X (.builtin "sum") (fun xs H Q => ∃ x, xs = [x] ∧ rSum1 X.K x H Q) := by
  intro pins s σ H xs us Q I r h
  obtain ⟨x, rfl, p, ys, rfl, q⟩ := h
  exact cr_sum hc pins s σ H _ us Q I r ⟨p, ys, rfl, q⟩
def dSum : PyData → Option PyData
  | .list ds => (intsOf ds).bind fun bs => some (.int bs.sum)
  | _ => none
theorem us_sum : UnS K (rSum1 K) (lift1 dSum) := us_lift (by
  intro x z e G H v sm dx Q q
  cases dx <;> first | cases e | skip
  rename_i a xs ds hs ha
  obtain ⟨bs, h1, e⟩ := Option.bind_eq_some_iff.mp e
  cases e
  have e := ints_of ha h1
  subst e
  exact ⟨a, bs, rfl, sm.seq hs, q G H _ .same (.int _)⟩)

/-! append, and a list that is held still from now on -/
def sApp (o : SE) (a : SE) : SS := fun ρ M => (o ρ M).bind fun x => (a ρ x.2).bind fun y => match x.1 with
  | .cel i => match x.2[i]?, y.2[i]?, y.1 with
    | some (some _), some (some xs), .dat d => if xs.length < 100000 then some (.nx ρ (y.2.set i (some (xs ++ [.dat d])))) else none
    | _, _, _ => none
  | _ => none
theorem et_app {to ta : TE} {o a : SE} (ho : EvS K to o) (ha : EvS K ta a) : EvT K (tDrop (tBM K "list" rAppend to (tCons ta tNil))) (sApp o a) := by
  intro ρ M c h F π G H σ R S D q
  unfold sApp at h
  obtain ⟨⟨x, M1⟩, h1, h⟩ := Option.bind_eq_some_iff.mp h
  obtain ⟨⟨y, M2⟩, h2, h⟩ := Option.bind_eq_some_iff.mp h
  cases x with
  | dat _ => cases h
  | cel i =>
    dsimp only at h
    split at h
    · rename_i xs0 xs d hx0 hx
      split at h
      · rename_i hz
        cases h
        refine ho ρ M _ M1 h1 F π G H σ R S _ fun π1 G1 H1 v1 g1 R1 s1 => ?_
        cases s1 with
        | @cel _ a ea =>
          refine ⟨?_, ?_⟩
          · obtain ⟨b, ws, p1, p2, p3, p4, p5⟩ := R1.mem i xs0 hx0
            rw [ea] at p1; cases p1
            exact .inl ⟨rfl, _, SqL.of p4⟩
          · refine ha ρ M1 _ M2 h2 F π1 G1 H1 σ R1 (S.gr g1) _ fun π2 G2 H2 v2 g2 R2 s2 => ?_
            obtain ⟨gs, more, rfl⟩ := g2
            obtain ⟨a', vs, p1, p2, p3, p4, p5⟩ := R2.mem i xs hx
            rw [ix_app ea] at p1; cases p1
            refine ⟨a, vs, v2, rfl, rfl, p4, szl (by rw [← p5.length]; exact hz), ?_⟩
            refine q _ G2 _ σ (g1.trans ⟨gs, more, rfl⟩) (R2.write hx (ix_app ea) (p5.append (.cons s2 .nil)) fun j hj => ?_) (S.gr (g1.trans ⟨gs, more, rfl⟩))
            rcases List.mem_append.mp hj with z | z
            · exact z
            · rcases List.mem_cons.mp z with z | z
              · cases z
              · cases z
      · cases h
    · cases h
def eFrz (a : SE) : SE := fun ρ M => (a ρ M).bind fun x => match x.1 with
  | .cel i => match x.2[i]? with
    | some (some xs) => (dats xs).bind fun ds => some (.dat (.list ds), x.2.set i none)
    | _ => none
  | _ => none
theorem ev_frz {ta : TE} {a : SE} (ha : EvS K ta a) : EvS K ta (eFrz a) := by
  intro ρ M z M' h F π G H σ R S Q q
  unfold eFrz at h
  obtain ⟨⟨x, M1⟩, h1, h⟩ := Option.bind_eq_some_iff.mp h
  refine ha ρ M x M1 h1 F π G H σ R S _ fun π1 G1 H1 v1 g1 R1 s1 => ?_
  cases s1 with
  | dat _ => cases h
  | @cel i a ea =>
    dsimp only at h
    split at h
    · rename_i xs hx
      obtain ⟨ds, hd, h⟩ := Option.bind_eq_some_iff.mp h
      cases h
      obtain ⟨a', vs, p1, p2, p3, p4, p5⟩ := R1.mem i xs hx
      rw [ea] at p1; cases p1
      obtain ⟨R2, sg⟩ := R1.freeze hx ea p4
      exact q π1 _ H1 _ (g1.trans (.of sg)) R2 (.dat (.lst (SqL.of upd_same) ((dats_all hd p5).mono sg)))
    · cases h
end
end Sm

namespace Sm
open PySem PySem.Spec PyProof.Rows L2

/-! ### repr of data -/
mutual
def wt : PyData → Nat
  | .none => 4
  | .bool _ => 5
  | .int _ => 1921
  | .str x => (reprText x).length
  | .list xs => 2 + wtAll xs
  | .tuple xs => 3 + wtAll xs
  | .dict kvs => 2 + wtKv kvs
def wtAll : List PyData → Nat
  | [] => 0
  | x :: xs => wt x + 2 + wtAll xs
def wtKv : List (PyData × PyData) → Nat
  | [] => 0
  | (k, v) :: r => wt k + wt v + 4 + wtKv r
end
mutual
def hasList : PyData → Bool
  | .none | .bool _ | .int _ | .str _ => false
  | .list _ => true
  | .tuple xs => hasListAll xs
  | .dict kvs => hasListKv kvs
def hasListAll : List PyData → Bool
  | [] => false
  | x :: xs => hasList x || hasListAll xs
def hasListKv : List (PyData × PyData) → Bool
  | [] => false
  | (_, v) :: r => hasList v || hasListKv r
end
theorem textFrom_le : ∀ (ts : List Str) (k : Nat) (acc : Str), (textFrom k acc ts).length ≤ acc.length + piled ts
  | [], k, acc => by rw [piled_nil]; exact Nat.le_refl _
  | t :: ts, k, acc => by
    have ih := textFrom_le ts (k + 1) (acc ++ (if k > 0 then ", " else "" : String) ++ t)
    rw [strLen_append, strLen_append] at ih
    have e : ((if k > 0 then ", " else "" : String) : Str).length ≤ 2 := by
      split
      · exact Nat.le_refl _
      · exact Nat.zero_le _
    rw [piled_cons]
    show (textFrom (k + 1) _ ts).length ≤ _
    omega
theorem join_le (ts : List Str) : (Str.join ", " ts).length ≤ piled ts := by
  cases ts with
  | nil => exact Nat.zero_le _
  | cons t r =>
    have := join_length_add (t :: r) (by simp)
    omega
mutual
theorem shown_le : ∀ d : PyData, d.showable = true → d.shown.length ≤ wt d
  | .none, _ => by simp only [PyData.shown, wt]; decide
  | .bool b, _ => by cases b <;> (simp only [PyData.shown, wt]; decide)
  | .int i, h => by
    simp only [PyData.shown, wt]
    exact int_text_len_1921 (by simpa [PyData.showable] using h)
  | .str x, _ => by simp only [PyData.shown, wt]; exact Nat.le_refl _
  | .list xs, h => by
    have ih := shownAll_le xs (by simpa [PyData.showable] using h)
    simp only [PyData.shown, wt]
    unfold listText
    rw [strLen_append]
    have h1 := textFrom_le (PyData.shownAll xs) 0 "["
    have h2 : (("[" : String) : Str).length = 1 := rfl
    have h3 : (("]" : String) : Str).length = 1 := rfl
    omega
  | .tuple xs, h => by
    have ih := shownAll_le xs (by simpa [PyData.showable] using h)
    simp only [PyData.shown, wt]
    unfold tupleText
    rw [strLen_append, strLen_append]
    have h1 := join_le (PyData.shownAll xs)
    have h2 : (("(" : String) : Str).length = 1 := rfl
    have h3 : ((if (PyData.shownAll xs).length == 1 then ",)" else ")" : String) : Str).length ≤ 2 := by
      split
      · exact Nat.le_refl _
      · exact (by decide : (1 : Nat) ≤ 2)
    omega
  | .dict kvs, h => by
    have ih := shownKv_le kvs (by simpa [PyData.showable] using h)
    simp only [PyData.shown, wt]
    unfold dictText
    rw [strLen_append, strLen_append]
    have h1 := join_le (PyData.shownKv kvs)
    have h2 : (("{" : String) : Str).length = 1 := rfl
    have h3 : (("}" : String) : Str).length = 1 := rfl
    omega
theorem shownAll_le : ∀ ds : List PyData, PyData.showableAll ds = true → piled (PyData.shownAll ds) ≤ wtAll ds
  | [], _ => by simp [PyData.shownAll, wtAll, piled]
  | d :: ds, h => by
    have h' : d.showable = true ∧ PyData.showableAll ds = true := by simpa [PyData.showableAll] using h
    have h1 := shown_le d h'.1
    have h2 := shownAll_le ds h'.2
    simp only [PyData.shownAll, wtAll, piled_cons]
    omega
theorem shownKv_le : ∀ ds : List (PyData × PyData), PyData.showableKv ds = true → piled (PyData.shownKv ds) ≤ wtKv ds
  | [], _ => by simp [PyData.shownKv, wtKv, piled]
  | (k, v) :: ds, h => by
    have h' : (k.showable = true ∧ v.showable = true) ∧ PyData.showableKv ds = true := by simpa [PyData.showableKv] using h
    have h1 := shown_le k h'.1.1
    have h2 := shown_le v h'.1.2
    have h3 := shownKv_le ds h'.2
    simp only [PyData.shownKv, wtKv, piled_cons]
    rw [strLen_append, strLen_append]
    have h4 : ((": " : String) : Str).length = 2 := rfl
    omega
end
section
variable {X : Cx} {pins : List (Addr × Obj)} {σ : L2.St} {H : Hp} {s : Shared}
mutual
theorem Dq.reads (I : Inv X pins σ H s) : ∀ (d : PyData) (v : V) (u : Value), Dq X.K H v d → RelV v u → ∃ as, Reads s.heap u d as ∧ (hasList d = false → sysModules ∉ as)
  | .none, _, _, h, r => by
    cases h; cases r
    exact ⟨_, Reads.none, fun _ z => nomatch z⟩
  | .bool b, _, _, h, r => by
    cases h; cases r
    exact ⟨_, Reads.bool b, fun _ z => nomatch z⟩
  | .int i, _, _, h, r => by
    cases h
    obtain ⟨t, rfl⟩ := r
    exact ⟨_, Reads.int i t, fun _ z => nomatch z⟩
  | .str x, _, _, h, r => by
    cases h
    obtain ⟨t, rfl⟩ := r
    exact ⟨_, Reads.str x t, fun _ z => nomatch z⟩
  | .list ds, _, _, h, r => by
    cases h with
    | lst hs ha =>
      cases r
      obtain ⟨its, rv, ⟨o, n, ho, hc, _, hd⟩, _⟩ := I.list hs
      obtain ⟨as, hr, _⟩ := Dq.readsAll I ds _ its ha rv
      exact ⟨_, Reads.list ho hc hd hr, fun z => by simp [hasList] at z⟩
  | .tuple ds, _, _, h, r => by
    cases h with
    | tup hs ha =>
      cases r
      obtain ⟨its, rv, ⟨o, ho, hc, n, hd⟩, _⟩ := I.tuple hs
      obtain ⟨as, hr, hn⟩ := Dq.readsAll I ds _ its ha rv
      exact ⟨_, Reads.tuple ho hc hd hr, fun z => hn (by simpa [hasList] using z)⟩
  | .dict ds, _, _, h, r => by
    cases h with
    | @dic a _ kvs _ hs0 ha =>
      cases r
      have hs : Rd H a (.dK kvs) := .inr ⟨_, hs0⟩
      obtain ⟨_, hsm, vs, hkv, o, es, ep, e1, e2, e3, _, e4, _⟩ := hs.ok I.hok
      obtain ⟨as, bs, k1, k2, hn1, hn2⟩ := Dq.readsKv I ds kvs vs ha hkv es.toList e4
      refine ⟨_, Reads.dict e1 e2.1 e3 k1 k2, fun z hm => ?_⟩
      rcases List.mem_append.mp hm with hm | hm
      · rcases List.mem_cons.mp hm with q | q
        · rw [← q] at hsm
          simp at hsm
        · exact hn1 q
      · exact hn2 (by simpa [hasList] using z) hm
theorem Dq.readsAll (I : Inv X pins σ H s) : ∀ (ds : List PyData) (vs : List V) (us : List Value), DqAll X.K H vs ds → Vals vs us → ∃ as, ReadsAll s.heap us ds as ∧ (hasListAll ds = false → sysModules ∉ as)
  | [], _, _, h, r => by
    cases h; cases r
    exact ⟨_, ReadsAll.nil, fun _ z => nomatch z⟩
  | d :: ds, _, _, h, r => by
    cases h with
    | cons h1 h2 =>
      cases r with
      | cons r1 r2 =>
        obtain ⟨as, q1, n1⟩ := Dq.reads I d _ _ h1 r1
        obtain ⟨bs, q2, n2⟩ := Dq.readsAll I ds _ _ h2 r2
        refine ⟨_, ReadsAll.cons q1 q2, fun z hm => ?_⟩
        have z' : hasList d = false ∧ hasListAll ds = false := by simpa [hasListAll] using z
        rcases List.mem_append.mp hm with hm | hm
        · exact n1 z'.1 hm
        · exact n2 z'.2 hm
theorem Dq.readsKv (I : Inv X pins σ H s) : ∀ (ds : List (PyData × PyData)) (kvs : List (Key × V)) (vs : List (Key × Value)), DqKv X.K H kvs ds → KV kvs vs → ∀ es : List DictEntry, Pairs (mixKind X.prog X.w) es vs →
    ∃ as bs, ReadsAll s.heap (es.map (·.key)) (ds.map (·.1)) as ∧ ReadsAll s.heap (es.map (·.val)) (ds.map (·.2)) bs ∧ sysModules ∉ as ∧ (hasListKv ds = false → sysModules ∉ bs)
  | [], _, _, h, r, es, e => by
    cases h; cases r; cases e
    exact ⟨_, _, ReadsAll.nil, ReadsAll.nil, (fun z => nomatch z), fun _ z => nomatch z⟩
  | _ :: ds, _, _, h, r, es, e => by
    cases h with
    | @cons k v vs' d _ h1 h2 =>
      cases r with
      | cons r1 r2 =>
        cases e with
        | @cons en kv es' kvs' hk hv ht =>
          obtain ⟨as, bs, k1, k2, n1, n2⟩ := Dq.readsKv I ds _ _ h2 r2 es' ht
          obtain ⟨e1, e2⟩ := r1
          dsimp only at e1 e2
          obtain ⟨cs, q1, m1⟩ := Dq.reads I _ _ en.val h1 (by rw [hv]; exact e2)
          have hk' : keyIs k en.key = true := by rw [e1]; exact hk
          have key : ∃ t, (∃ i, (kD k = PyData.int i ∧ en.key = Value.int i t)) ∨ ∃ x, (kD k = PyData.str x ∧ en.key = Value.str x t) := by
            rcases keyIs_shape hk' with ⟨i, t, q, w⟩ | ⟨x, t, q, w⟩
            · exact ⟨t, .inl ⟨i, by rw [q]; rfl, w⟩⟩
            · exact ⟨t, .inr ⟨x, by rw [q]; rfl, w⟩⟩
          have rk : Reads s.heap en.key (kD k) [] := by
            obtain ⟨t, ⟨i, q, w⟩ | ⟨x, q, w⟩⟩ := key
            · rw [q, w]; exact Reads.int i t
            · rw [q, w]; exact Reads.str x t
          refine ⟨[] ++ as, cs ++ bs, ReadsAll.cons rk k1, ReadsAll.cons q1 k2, n1, fun z hm => ?_⟩
          have z' : hasList d = false ∧ hasListKv ds = false := by simpa [hasListKv] using z
          rcases List.mem_append.mp hm with hm | hm
          · exact m1 z'.1 hm
          · exact n2 z'.2 hm
end
/-- repr(x) -/
def rRepr1 (K : PySem.W.Frag) : V → Hp → VK → Prop := fun x H Q => ∃ d : PyData, Dq K H x d ∧ d.showable = true ∧ d.depth ≤ 64 ∧ wt d ≤ 8000000 ∧ (d.hasDict = true → hasList d = false) ∧ Q (.str d.shown) H
theorem call_repr1 (hg : X.A.guards = some []) {k : Nat} (hr : Room k X.A) : CallR X (.builtin "repr") (fun xs H Q => ∃ x, xs = [x] ∧ rRepr1 X.K x H Q) := by
  intro pins s σ H xs us Q I r h
  obtain ⟨x, rfl, d, hd, hs, hp, hw, hl, q⟩ := h
  obtain ⟨u, rfl, ru⟩ := vals1 r
  obtain ⟨as, hr', hn⟩ := Dq.reads I d x u hd ru
  have hz : d.shown.length ≤ sizeLine := Nat.le_trans (shown_le d hs) (Nat.le_trans hw (by decide))
  have hu := hr.un
  have ref : ∀ a, u = .ref a → wpAny (model X.prog X.w) X.A (call (.builtin "repr") [u]) (EP X pins σ Q) X.xe s := by
    intro a e
    subst e
    refine repr_of_reads' hr' hs (fun z => hn (hl z)) hg (by omega) (fun b o e => e) (fun h' t tk hk => ?_) hz
    exact ⟨.str d.shown, H, I.kept hk, ⟨_, rfl⟩, q⟩
  cases hd with
  | non =>
    cases ru
    refine PySem.P.repr_of_none ⟨.str "None", H, I.tok _, ⟨_, rfl⟩, ?_⟩
    simpa only [PyData.shown] using q
  | bl b =>
    cases ru
    refine PySem.P.repr_of_bool ⟨.str (if b = true then (Str.ofString "True") else (Str.ofString "False")), H, I.tok _, ⟨_, rfl⟩, ?_⟩
    simpa only [PyData.shown] using q
  | int i =>
    obtain ⟨t, rfl⟩ := ru
    refine PySem.P.repr_of_int (by simpa [PyData.showable] using hs) ⟨.str (toString i), H, I.tok _, ⟨_, rfl⟩, ?_⟩
    simpa only [PyData.shown] using q
  | str x =>
    obtain ⟨t, rfl⟩ := ru
    simp only [PyData.shown] at q hz
    exact PySem.P.repr_of_str ⟨.str (reprText x), H, I.tok _, ⟨_, rfl⟩, q⟩ hz
  | lst _ _ => exact ref _ ru
  | tup _ _ => exact ref _ ru
  | dic _ _ => exact ref _ ru
end
def dRepr (d : PyData) : Option PyData := if (d.showable && decide (d.depth ≤ 64) && decide (wt d ≤ 8000000) && (!d.hasDict || !hasList d)) = true then some (.str d.shown) else none
section
variable {K : PySem.W.Frag}
theorem us_repr : UnS K (rRepr1 K) (lift1 dRepr) := us_lift (by
  intro x z e G H v sm dx Q q
  unfold dRepr at e
  split at e
  · rename_i hh
    cases e
    simp only [Bool.and_eq_true, decide_eq_true_eq, Bool.or_eq_true, Bool.not_eq_true'] at hh
    obtain ⟨⟨⟨h1, h2⟩, h3⟩, h4⟩ := hh
    refine ⟨x, dx.mono sm, h1, h2, h3, fun z => ?_, q G H _ .same (.str _)⟩
    rcases h4 with h | h
    · rw [h] at z; cases z
    · exact h
  · cases e)

/-! ### sorted, list(range(..)), [.. for .. for ..] -/
def insI (x : Int) : List Int → List Int
  | [] => [x]
  | y :: r => if x ≤ y then x :: y :: r else y :: insI x r
def srtI : List Int → List Int
  | [] => []
  | x :: r => insI x (srtI r)
theorem insI_perm (x : Int) : ∀ l : List Int, (insI x l).Perm (x :: l)
  | [] => List.Perm.refl _
  | y :: r => by
    unfold insI
    split
    · exact List.Perm.refl _
    · exact ((insI_perm x r).cons y).trans (List.Perm.swap x y r)
theorem srtI_perm : ∀ l : List Int, (srtI l).Perm l
  | [] => List.Perm.refl _
  | x :: r => (insI_perm x (srtI r)).trans ((srtI_perm r).cons x)
theorem insI_sorted (x : Int) : ∀ l : List Int, l.Pairwise (· ≤ ·) → (insI x l).Pairwise (· ≤ ·)
  | [], _ => List.pairwise_singleton _ _
  | y :: r, h => by
    obtain ⟨h1, h2⟩ := List.pairwise_cons.mp h
    unfold insI
    split
    · rename_i hx
      refine List.pairwise_cons.mpr ⟨fun z hz => ?_, h⟩
      rcases List.mem_cons.mp hz with e | e
      · rw [e]; exact hx
      · exact Int.le_trans hx (h1 z e)
    · rename_i hx
      refine List.pairwise_cons.mpr ⟨fun z hz => ?_, insI_sorted x r h2⟩
      rcases List.mem_cons.mp ((insI_perm x r).mem_iff.mp hz) with e | e
      · rw [e]; omega
      · exact h1 z e
theorem srtI_sorted : ∀ l : List Int, (srtI l).Pairwise (· ≤ ·)
  | [] => List.Pairwise.nil
  | x :: r => insI_sorted x _ (srtI_sorted r)
theorem sorted_eq : ∀ {a b : List Int}, a.Perm b → a.Pairwise (· ≤ ·) → b.Pairwise (· ≤ ·) → a = b
  | [], _, p, _, _ => (List.Perm.nil_eq p)
  | x :: a, [], p, _, _ => by have := p.length_eq; simp at this
  | x :: a, y :: b, p, ha, hb => by
    obtain ⟨a1, a2⟩ := List.pairwise_cons.mp ha
    obtain ⟨b1, b2⟩ := List.pairwise_cons.mp hb
    have hxy : x = y := by
      have h1 : x ∈ y :: b := p.mem_iff.mp List.mem_cons_self
      have h2 : y ∈ x :: a := p.mem_iff.mpr List.mem_cons_self
      rcases List.mem_cons.mp h1 with e | e
      · exact e
      · rcases List.mem_cons.mp h2 with f | f
        · exact f.symm
        · have := a1 y f; have := b1 x e; omega
    subst hxy
    rw [sorted_eq (List.Perm.cons_inv p) a2 b2]
def rSrt1 (K : PySem.W.Frag) : V → Hp → VK → Prop := fun x H Q => ∃ (a : Addr) (ns : List Int), x = .ref a ∧ SqL K H a (ns.map V.int) ∧ ∀ p : Addr, H p = none → Q (.ref p) (upd H p (.lst ((srtI ns).map V.int)))
theorem call_sorted1 {X : Cx} : CallR X (.builtin "sorted") (fun xs H Q => ∃ x, xs = [x] ∧ rSrt1 X.K x H Q) := by
  intro pins s σ H xs us Q I r h
  obtain ⟨x, rfl, p, ns, rfl, hs, q⟩ := h
  refine cr_sortedI pins s σ H _ us Q I r ⟨p, ns, rfl, hs, fun ns' a h1 h2 ha => ?_⟩
  have e : ns' = srtI ns := sorted_eq (h1.trans (srtI_perm ns).symm) h2 (srtI_sorted ns)
  subst e
  exact q a ha
def fSorted : Mem → SV → Option SV := fun M x => match x with
  | .dat (.tuple _) => none
  | x => (items M x).bind fun ds => (intsOf ds).bind fun ns => some (.dat (.list ((srtI ns).map PyData.int)))
theorem ints_all {G : Hp} : ∀ (ns : List Int), DqAll K G (ns.map V.int) (ns.map PyData.int)
  | [] => .nil
  | n :: r => .cons (.int n) (ints_all r)
theorem us_sorted : UnS K (rSrt1 K) fSorted := by
  intro M x z e F π G H v R s Q q
  unfold fSorted at e
  split at e
  · cases e
  · rename_i hne
    obtain ⟨ds, h1, e⟩ := Option.bind_eq_some_iff.mp e
    obtain ⟨ns, h2, e⟩ := Option.bind_eq_some_iff.mp e
    cases e
    have fin : ∀ a xs, v = .ref a → SqL K H a xs → DqAll K G xs ds → rSrt1 K v H Q := by
      intro a xs e hs ha
      have e2 := ints_of ha h2
      subst e2
      exact ⟨a, ns, e, hs, fun p hp => q _ _ _ (.new hp) (.dat (.lst (SqL.of upd_same) (ints_all _)))⟩
    cases s with
    | dat d =>
      cases d <;> first | cases h1 | skip
      · rename_i a xs hs ha
        exact fin a xs rfl (R.ex.seq hs) ha
      · exact absurd rfl (hne _)
    | @cel i a ea =>
      unfold items at h1
      dsimp only at h1
      split at h1
      · rename_i ys hy
        obtain ⟨a', vs, p1, p2, p3, p4, p5⟩ := R.mem i ys hy
        rw [ea] at p1; cases p1
        exact fin a vs rfl (SqL.of p4) (dats_all h1 p5)
      · cases h1
def eLr2 (a b : SE) : SE := fun ρ M => (a ρ M).bind fun x => (b ρ x.2).bind fun y => match x.1, y.1 with
  | .dat (.int i), .dat (.int j) => if (-(2 ^ 20) ≤ i ∧ i < 2 ^ 20) ∧ -(2 ^ 20) ≤ j ∧ j < 2 ^ 20 then some (.dat (.list (rangeD i j)), y.2) else none
  | _, _ => none
theorem rg_all {G : Hp} (i j : Int) : DqAll K G (rgV i j) (rangeD i j) := by
  unfold rgV rangeD
  generalize List.range (j - i).toNat = l
  induction l with
  | nil => exact .nil
  | cons a l ih => exact .cons (.int _) ih
theorem ev_lr2 {ta tb : TE} {a b : SE} (ha : EvS K ta a) (hb : EvS K tb b) : EvS K (tLstRg (tRg2 ta tb)) (eLr2 a b) := by
  intro ρ M z M' h F π G H σ R S Q q
  unfold eLr2 at h
  obtain ⟨⟨x, M1⟩, h1, h⟩ := Option.bind_eq_some_iff.mp h
  obtain ⟨⟨y, M2⟩, h2, h⟩ := Option.bind_eq_some_iff.mp h
  refine ha ρ M x M1 h1 F π G H σ R S _ fun π1 G1 H1 v1 g1 R1 s1 => ?_
  refine hb ρ M1 y M2 h2 F π1 G1 H1 σ R1 (S.gr g1) _ fun π2 G2 H2 v2 g2 R2 s2 => ?_
  cases s1 with
  | cel _ => cases h
  | dat d1 =>
    cases d1 with
    | int i =>
      cases s2 with
      | cel _ => cases h
      | dat d2 =>
        cases d2 with
        | int j =>
          dsimp only at h
          split at h
          · rename_i hh
            cases h
            refine ⟨i, j, rfl, rfl, ⟨by omega, by omega, by omega, by omega, by omega⟩, fun p hp => ?_⟩
            have al : Al G2 H2 (upd G2 p (.lst (rgV i j))) (upd H2 p (.lst (rgV i j))) := .new hp
            exact q π2 _ _ _ ((g1.trans g2).trans (.of (R2.alSame al))) (R2.al al) (.dat (.lst (SqL.of upd_same) (rg_all i j)))
          · cases h
        | _ => cases h
    | _ => cases h
/-- [el for .. in it if tt for .. in it1 if tt1] -/
def lcL2 (g : SG) (tt : SB) (it1 : SI) (g1 : SG) (tt1 : SB) (el : SE) (vs1 : List Nat) (ρ : Rho) : List PyData → Mem → Option (List PyData × Mem)
  | [], M => some ([], M)
  | d :: ds, M => (g (.dat d) ρ M).bind fun y => (tt y.1 y.2).bind fun b => if b.1 = true then (it1 y.1 b.2).bind fun x => if x.1.length ≤ 1000 then (lcL g1 tt1 el (wipeR y.1 vs1) x.1 x.2).bind fun r => (lcL2 g tt it1 g1 tt1 el vs1 ρ ds r.2).bind fun z => some (r.1 ++ z.1, z.2) else none
    else lcL2 g tt it1 g1 tt1 el vs1 ρ ds b.2
def eLc2 (it : SI) (g : SG) (tt : SB) (it1 : SI) (g1 : SG) (tt1 : SB) (el : SE) (vs vs1 : List Nat) : SE := fun ρ M => (it ρ M).bind fun x => if x.1.length ≤ 1000 then (lcL2 g tt it1 g1 tt1 el vs1 (wipeR ρ vs) x.1 x.2).bind fun z => some (.dat (.list z.1), z.2) else none
theorem ev_lc2 {ta : TE} {a : SE} {wi wi1 : TI} {g g1 : TG} {tt tt1 : TT} {it it1 : SI} {sg sg1 : SG} {b b1 : SB} {vs vs1 : List Nat} (hi : EvI K wi it) (hg : EvG K g sg) (hw : GW g vs) (ht : EvB K tt b)
    (hi1 : EvI K wi1 it1) (hg1 : EvG K g1 sg1) (hw1 : GW g1 vs1) (ht1 : EvB K tt1 b1) (he : EvS K ta a) : EvS K (tLc2 wi g tt wi1 g1 tt1 ta vs vs1) (eLc2 it sg b it1 sg1 b1 a vs vs1) := by
  intro ρ M z M' h F π G H σ R S Q q
  unfold eLc2 at h
  obtain ⟨⟨ds, M1⟩, e, h⟩ := Option.bind_eq_some_iff.mp h
  split at h
  · rename_i hz
    dsimp only at hz
    obtain ⟨⟨out, M2⟩, e2, h⟩ := Option.bind_eq_some_iff.mp h
    cases h
    refine hi ρ M ds M1 e F π G H σ R S _ fun π1 G1 H1 J g1' R1 ok => ?_
    intro D hD
    have S1 := (S.gr g1').wiped vs
    have hF := R1.frNone hD
    let W : Nat → Hp → Prop := fun i H => ∃ M π' G' acc vs' rest, i ≤ ds.length ∧ vs'.length ≤ 1000 * i ∧ Gr π1 π' G1 G' ∧ Rel K (upd F D (.lst vs')) π' G' H M ∧ DqAll K G' vs' acc ∧ lcL2 sg b it1 sg1 b1 a vs1 (wipeR ρ vs) (ds.drop i) M = some (rest, M2) ∧ out = acc ++ rest
    refine ⟨fun i m H => m = ds.length - i ∧ W i H, ⟨_, rfl, M1, π1, G1, [], [], out, Nat.zero_le _, Nat.zero_le _, Gr.refl, R1.frame hD, .nil, e2, rfl⟩, ?_⟩
    rintro i m H' ⟨rfl, M3, π', G', acc, vs', rest, hle, hvl, g', R', hacc, hl, ho⟩
    by_cases hlt : i < ds.length
    · refine .inr ⟨ok.go i H' (fun b o x => R'.ex b o (g'.s b o x)) hlt, W (i + 1), fun H'' w => ⟨ds.length - (i + 1), by omega, rfl, w⟩, fun x H'' y => ?_⟩
      obtain ⟨d, G3, e3, al, hd⟩ := ok.yld i H' x H'' G' g'.s R'.ex y hlt
      have ed : ds.drop i = d :: ds.drop (i + 1) := by
        rw [List.drop_eq_getElem_cons hlt]
        rw [List.getElem?_eq_getElem hlt] at e3
        cases e3; rfl
      rw [ed] at hl
      unfold lcL2 at hl
      obtain ⟨⟨ρ2, M4⟩, e4, hl⟩ := Option.bind_eq_some_iff.mp hl
      obtain ⟨⟨bv, M5⟩, e5, hl⟩ := Option.bind_eq_some_iff.mp hl
      have ga := Gr.of (π := π') (R'.alSame al)
      have hwi : wipe (wipe σ vs) vs = wipe σ vs := wipe_wipe σ vs vs (fun v hv => hv)
      have key : ∀ Q' : L2.St → Hp → Prop, (∀ π4 G4 H4 σ4, Gr π' π4 G3 G4 → Rel K (upd F D (.lst vs')) π4 G4 H4 M4 → Slots K π4 G4 ρ2 σ4 → Q' σ4 H4) → g x (wipe σ vs) H'' fun σ2 H2 => wipe σ2 vs = wipe σ vs ∧ Q' σ2 H2 := by
        intro Q' hQ
        have := hw x (wipe σ vs) H'' Q' (hg (.dat d) (wipeR ρ vs) M3 ρ2 M4 e4 (upd F D (.lst vs')) π' G3 H'' x (wipe σ vs) (R'.al al) (S1.gr (g'.trans ga)) (.dat hd) Q' hQ)
        rw [hwi] at this
        exact this
      refine key _ fun π4 G4 H4 σ4 g4 R4 S4 => ?_
      refine ht ρ2 M4 bv M5 e5 _ π4 G4 H4 σ4 R4 S4 _ fun π5 G5 H5 g5 R5 => ?_
      have gg := ((g'.trans ga).trans g4).trans g5
      have gh := (ga.trans g4).trans g5
      cases bv with
      | true =>
        rw [if_pos rfl]
        dsimp only at hl
        rw [if_pos rfl] at hl
        obtain ⟨⟨es, M6⟩, e6, hl⟩ := Option.bind_eq_some_iff.mp hl
        split at hl
        · rename_i hz1
          dsimp only at hz1
          obtain ⟨⟨ys, M7⟩, e7, hl⟩ := Option.bind_eq_some_iff.mp hl
          obtain ⟨⟨zs, M8⟩, e8, hl⟩ := Option.bind_eq_some_iff.mp hl
          cases hl
          refine hi1 ρ2 M5 es M6 e6 _ π5 G5 H5 σ4 R5 (S4.gr g5) _ fun π6 G6 H6 J1 g6 R6 ok1 => ?_
          have S6 := (S4.gr (g5.trans g6)).wiped vs1
          let W1 : Nat → Hp → Prop := fun j H => ∃ M π' G' acc1 vs2 rest1, j ≤ es.length ∧ vs2.length ≤ j ∧ Gr π6 π' G6 G' ∧ Rel K (upd F D (.lst (vs' ++ vs2))) π' G' H M ∧ DqAll K G' vs2 acc1 ∧ lcL sg1 b1 a (wipeR ρ2 vs1) (es.drop j) M = some (rest1, M7) ∧ ys = acc1 ++ rest1
          refine ⟨fun j m H => m = es.length - j ∧ W1 j H, ⟨_, rfl, M6, π6, G6, [], [], ys, Nat.zero_le _, Nat.le_refl _, Gr.refl, by rw [List.append_nil]; exact R6, .nil, e7, rfl⟩, ?_⟩
          rintro j m1 H7 ⟨rfl, M9, π7, G7, acc1, vs2, rest1, hle1, hvl1, g7, R7, hacc1, hl1, ho1⟩
          by_cases hlt1 : j < es.length
          · refine .inr ⟨ok1.go j H7 (fun b o x => R7.ex b o (g7.s b o x)) hlt1, W1 (j + 1), fun H'' w => ⟨es.length - (j + 1), by omega, rfl, w⟩, fun x1 H8 y1 => ?_⟩
            obtain ⟨d1, G8, e9, al1, hd1⟩ := ok1.yld j H7 x1 H8 G7 g7.s R7.ex y1 hlt1
            have ed1 : es.drop j = d1 :: es.drop (j + 1) := by
              rw [List.drop_eq_getElem_cons hlt1]
              rw [List.getElem?_eq_getElem hlt1] at e9
              cases e9; rfl
            rw [ed1] at hl1
            unfold lcL at hl1
            obtain ⟨⟨ρ3, M10⟩, e10, hl1⟩ := Option.bind_eq_some_iff.mp hl1
            obtain ⟨⟨bw, M11⟩, e11, hl1⟩ := Option.bind_eq_some_iff.mp hl1
            have ga1 := Gr.of (π := π7) (R7.alSame al1)
            have hwi1 : wipe (wipe σ4 vs1) vs1 = wipe σ4 vs1 := wipe_wipe σ4 vs1 vs1 (fun v hv => hv)
            have key1 : ∀ Q' : L2.St → Hp → Prop, (∀ π8 G9 H9 σ9, Gr π7 π8 G8 G9 → Rel K (upd F D (.lst (vs' ++ vs2))) π8 G9 H9 M10 → Slots K π8 G9 ρ3 σ9 → Q' σ9 H9) → g1 x1 (wipe σ4 vs1) H8 fun σ2 H2 => wipe σ2 vs1 = wipe σ4 vs1 ∧ Q' σ2 H2 := by
              intro Q' hQ
              have := hw1 x1 (wipe σ4 vs1) H8 Q' (hg1 (.dat d1) (wipeR ρ2 vs1) M9 ρ3 M10 e10 (upd F D (.lst (vs' ++ vs2))) π7 G8 H8 x1 (wipe σ4 vs1) (R7.al al1) (S6.gr (g7.trans ga1)) (.dat hd1) Q' hQ)
              rw [hwi1] at this
              exact this
            refine key1 _ fun π8 G9 H9 σ9 g9 R9 S9 => ?_
            refine ht1 ρ3 M10 bw M11 e11 _ π8 G9 H9 σ9 R9 S9 _ fun π10 G10 H10 g10 R10 => ?_
            have gk := ((g7.trans ga1).trans g9).trans g10
            have gj := (ga1.trans g9).trans g10
            cases bw with
            | true =>
              rw [if_pos rfl]
              dsimp only at hl1
              rw [if_pos rfl] at hl1
              obtain ⟨⟨r, M12⟩, e12, hl1⟩ := Option.bind_eq_some_iff.mp hl1
              refine he ρ3 M11 r M12 e12 _ π10 G10 H10 σ9 R10 (S9.gr g10) _ fun π11 G11 H11 v11 g11 R11 s11 => ?_
              cases s11 with
              | cel _ => cases hl1
              | @dat x' v11 hd11 =>
                dsimp only at hl1
                obtain ⟨⟨rest', M13⟩, e13, hl1⟩ := Option.bind_eq_some_iff.mp hl1
                cases hl1
                refine ⟨vs' ++ vs2, (R11.fr D _ upd_same).1, ?_, ?_⟩
                · rw [List.length_append]
                  have : 1000 * i ≤ 1000 * 1000 := Nat.mul_le_mul_left _ (by omega)
                  exact Nat.lt_of_lt_of_le (show vs'.length + vs2.length < 2000000 by omega) (by decide)
                · refine ⟨M12, π11, G11, acc1 ++ [x'], vs2 ++ [v11], rest', hlt1, by rw [List.length_append]; simp; omega, gk.trans g11, ?_, (hacc1.mono (gj.s.trans g11.s)).append (.cons hd11 .nil), e13, by rw [ho1]; simp⟩
                  have := R11.framed (o' := .lst ((vs' ++ vs2) ++ [v11])) upd_same
                  rw [upd_upd, List.append_assoc] at this
                  rw [List.append_assoc]
                  exact this
            | false =>
              rw [if_neg Bool.false_ne_true]
              dsimp only at hl1
              rw [if_neg Bool.false_ne_true] at hl1
              exact ⟨M11, π10, G10, acc1, vs2, rest1, hlt1, by omega, gk, R10, hacc1.mono gj.s, hl1, ho1⟩
          · have ee : es.drop j = [] := List.drop_of_length_le (by omega)
            rw [ee] at hl1
            cases hl1
            rw [List.append_nil] at ho1
            subst ho1
            refine .inl ⟨ok1.stop j H7 (fun b o x => R7.ex b o (g7.s b o x)) (by omega), ?_⟩
            exact ⟨_, π7, G7, acc ++ ys, vs' ++ vs2, zs, hlt, by rw [List.length_append]; omega, (gg.trans g6).trans g7, R7, (hacc.mono ((gh.s.trans g6.s).trans g7.s)).append hacc1, e8, by rw [ho]; simp⟩
        · cases hl
      | false =>
        rw [if_neg Bool.false_ne_true]
        dsimp only at hl
        rw [if_neg Bool.false_ne_true] at hl
        exact ⟨M5, π5, G5, acc, vs', rest, hlt, by omega, gg, R5, hacc.mono gh.s, hl, ho⟩
    · have e : ds.drop i = [] := List.drop_of_length_le (by omega)
      rw [e] at hl
      cases hl
      rw [List.append_nil] at ho
      subst ho
      obtain ⟨R6, sg6⟩ := R'.unframe hF
      exact .inl ⟨ok.stop i H' (fun b o x => R'.ex b o (g'.s b o x)) (by omega), q π' _ H' _ ((g1'.trans g').trans (.of sg6)) R6 (.dat (.lst (SqL.of upd_same) (hacc.mono sg6)))⟩
  · cases h
end
end Sm

namespace Sm
open PySem PySem.Spec PyProof.Rows L2
section
variable {K : PySem.W.Frag}
/-- a value's truth -/
def bTru (a : SE) : SB := fun ρ M => (a ρ M).bind fun x => match x.1 with
  | .dat (.bool b) => some (b, x.2)
  | .dat (.int i) => some (i != 0, x.2)
  | .dat .none => some (false, x.2)
  | .dat (.list ds) => some (!ds.isEmpty, x.2)
  | .dat (.tuple ds) => some (!ds.isEmpty, x.2)
  | _ => none
theorem isE {G : Hp} {vs : List V} {ds : List PyData} (h : DqAll K G vs ds) : (!ds.isEmpty) = !vs.isEmpty := by cases h <;> rfl
theorem eb_truth {ta : TE} {a : SE} (ha : EvS K ta a) : EvB K (fun σ H Q => ta σ H fun x H' => ∃ k, TruV K x H' k ∧ Q k H') (bTru a) := by
  intro ρ M z M' h F π G H σ R S Q q
  unfold bTru at h
  obtain ⟨⟨x, M1⟩, h1, h⟩ := Option.bind_eq_some_iff.mp h
  refine ha ρ M x M1 h1 F π G H σ R S _ fun π1 G1 H1 v1 g1 R1 s1 => ?_
  cases s1 with
  | cel _ => cases h
  | dat hd =>
    cases hd with
    | bl i => cases h; exact ⟨_, rfl, q π1 G1 H1 g1 R1⟩
    | int i => cases h; exact ⟨_, rfl, q π1 G1 H1 g1 R1⟩
    | non => cases h; exact ⟨_, rfl, q π1 G1 H1 g1 R1⟩
    | lst hs ha => cases h; exact ⟨_, .inl ⟨_, R1.ex.seq hs, isE ha⟩, q π1 G1 H1 g1 R1⟩
    | tup hs ha => cases h; exact ⟨_, .inr (.inl ⟨_, same_sqT R1.ex hs, isE ha⟩), q π1 G1 H1 g1 R1⟩
    | _ => cases h
/-- a new thing is held still at once -/
def tFrzE (t : TE) : TE := fun σ H Q => t σ H fun v H' => ∃ d u, v = .ref d ∧ H' d = some u ∧ Mut (some u) ∧ ∀ od, Q v (upd H' d (.frz od u))
theorem pe_frz {X : Cx} {e : Expr} {t : TE} (h : PE X e t) : PE X e (tFrzE t) := by
  refine ⟨fun pins s σ H Q I hw => ?_⟩
  refine thn (h.run pins s σ _ _ I hw) fun v s1 ⟨x, H1, I2, r, d, u, e, hd, mu, q⟩ => ?_
  obtain ⟨od, I3⟩ := I2.lock hd mu
  exact ⟨x, _, I3, r, q od⟩
/-- {} and {'a': x} -/
def eD0 : SE := fun _ M => some (.dat (.dict []), M)
theorem ev_d0 : EvS K (tFrzE tDNewK) eD0 := by
  intro ρ M z M' h F π G H σ R S Q q
  cases h
  intro p hp
  refine ⟨p, .dK [], rfl, upd_same, trivial, fun od => ?_⟩
  rw [upd_upd]
  have al : Al G H (upd G p (.frz od (.dK []))) (upd H p (.frz od (.dK []))) := .new hp
  exact q π _ _ _ (.of (R.alSame al)) (R.al al) (.dat (.dic upd_same .nil))
def eD1 (k : Str) (a : SE) : SE := fun ρ M => (a ρ M).bind fun x => match x.1 with
  | .dat d => some (.dat (.dict [(.str k, d)]), x.2)
  | _ => none
theorem ev_d1 {k : Str} {ta : TE} {a : SE} (ha : EvS K ta a) : EvS K (tFrzE (tDisp [(tC (.str k), ta)])) (eD1 k a) := by
  intro ρ M z M' h F π G H σ R S Q q
  unfold eD1 at h
  obtain ⟨⟨x, M1⟩, h1, h⟩ := Option.bind_eq_some_iff.mp h
  intro p hp
  have hF := R.frNone hp
  refine ha ρ M x M1 h1 (upd F p (.dK [])) π G (upd H p (.dK [])) σ (R.frame hp) S _ fun π1 G1 H1 v1 g1 R1 s1 => ?_
  cases s1 with
  | cel _ => cases h
  | @dat d v1 hd =>
    cases h
    refine ⟨(R1.fr p _ upd_same).1, [(.inr k, v1)], rfl, (by show 1 ≤ 15; decide), p, .dK (mergeK [] [(.inr k, v1)]), rfl, upd_same, trivial, fun od => ?_⟩
    rw [upd_upd]
    have R2 := R1.framed (o' := .frz od (.dK (mergeK [] [(.inr k, v1)]))) upd_same
    rw [upd_upd] at R2
    obtain ⟨R3, sg⟩ := R2.unframe hF
    exact q π1 _ _ _ (g1.trans (.of sg)) R3 (.dat (.dic upd_same (.cons (k := .inr k) (hd.mono sg) .nil)))
/-- a global of the written part -/
theorem ev_glob {v : V} {d : PyData} (hd : ∀ G, Dq K G v d) : EvS K (tC v) (eC d) := ev_c hd
theorem ev_int {i : Int} : EvS K (tC (.int i)) (eC (.int i)) := ev_c fun _ => .int i
theorem ev_bl {b : Bool} : EvS K (tC (.bl b)) (eC (.bool b)) := ev_c fun _ => .bl b
theorem ev_non : EvS K (tC .non) (eC .none) := ev_c fun _ => .non
theorem ev_str {x : Str} : EvS K (tC (.str x)) (eC (.str x)) := ev_c fun _ => .str x
/-- a tuple of the written part, of ints -/
theorem dq_ktup {a : Addr} {ns : List Int} {o : Obj} {its : Array Value} {n : Nat} (h1 : K.lookup a = some o) (h2 : o.cls = .type "tuple") (h3 : o.data = .seq its n) (h4 : its.size ≤ sizeLine) (h5 : Vals (ns.map V.int) its.toList) : ∀ G, Dq K G (.ref a) (.tuple (ns.map PyData.int)) :=
  fun G => .tup (.inr ⟨o, its, n, h1, h2, h3, h4, h5⟩) (ints_all ns)
end
end Sm

namespace Sm
open PySem PySem.Spec PyProof.Rows L2
section
variable {prog : Program} {w : World} {A : Around} {E : Value → Shared → Prop} {s : Shared}
theorem rev_applied {sl : Addr} {vl vu vk : Value} {n : Nat} {Q : Int × Int × Nat → Shared → Prop} (hs : s.heap.IsSliceOf sl vl vu vk) (pl : IsPart vl none) (pu : IsPart vu none) (pk : IsPart vk (some (-1)))
    (h : Q ((n : Int) - 1, -1, n) s) : wpAny (model prog w) A (Builtin.Slice.sliceApplied (.ref sl) (pure (n : Int))) Q E s := by
  obtain ⟨os, hos, hcs, hds⟩ := id hs
  unfold Builtin.Slice.sliceApplied Builtin.Slice.sliceFields
  refine wpAny_bind (wpAny_bind (wpAny_field hos hds (x := vl) rfl (wpAny_bind (wpAny_field hos hds (x := vu) rfl (wpAny_bind (wpAny_field hos hds (x := vk) rfl (wpAny_pure ?_)))))))
  refine wpAny_bind (HT.slicePart_ pk ?_)
  show wpAny _ _ (if ((-1 : Int) == 0) = true then _ else _) _ _ s
  rw [if_neg (by decide)]
  refine wpAny_bind (HT.slicePart_ pl (wpAny_bind (HT.slicePart_ pu (wpAny_bind (wpAny_pure ?_)))))
  have e : Builtin.Slice.sliceAdjust none none (-1) (n : Int) = ((n : Int) - 1, -1) := rfl
  show wpAny _ _ (match Builtin.Slice.sliceAdjust none none (-1) (n : Int) with | (lo, hi) => pure (lo, (-1 : Int), Builtin.Slice.slicePlaces lo hi (-1))) _ _ s
  rw [e]
  show wpAny _ _ (pure ((n : Int) - 1, (-1 : Int), Builtin.Slice.slicePlaces ((n : Int) - 1) (-1) (-1))) _ _ s
  have e2 : Builtin.Slice.slicePlaces ((n : Int) - 1) (-1) (-1) = n := by
    unfold Builtin.Slice.slicePlaces
    have h1 : ¬ ((-1 : Int) > 0) := by decide
    rw [if_neg h1]
    rw [show (- -1 : Int) = 1 by decide, Int.ediv_one]
    split <;> omega
  rw [e2]
  exact wpAny_pure h
theorem fm_congr {α β : Type} {f g : α → Option β} : ∀ l : List α, (∀ x ∈ l, f x = g x) → l.filterMap f = l.filterMap g
  | [], _ => rfl
  | x :: l, h => by
    rw [List.filterMap_cons, List.filterMap_cons, h x List.mem_cons_self, fm_congr l fun y hy => h y (List.mem_cons_of_mem _ hy)]
theorem rev_pick (xs : Array Value) : ((List.range xs.size).filterMap fun (m : Nat) => xs[((xs.size : Int) - 1 + (m : Int) * (-1)).toNat]?).toArray = xs.toList.reverse.toArray := by
  have e : (List.range xs.size).filterMap (fun (m : Nat) => xs[((xs.size : Int) - 1 + (m : Int) * (-1)).toNat]?) = ((List.range xs.size).map fun k => xs.size - 1 - k).filterMap (xs[·]?) := by
    rw [List.filterMap_map]
    apply fm_congr
    intro m hm
    have := List.mem_range.mp hm
    have q : ((xs.size : Int) - 1 + (m : Int) * (-1)).toNat = xs.size - 1 - m := by omega
    show xs[((xs.size : Int) - 1 + (m : Int) * (-1)).toNat]? = xs[xs.size - 1 - m]?
    rw [q]
  rw [e, PySem.W.krv_range, List.filterMap_reverse, PySem.W.krv_all]
open HT in
theorem getItem_tuple_rev {t sl : Addr} {items : Array Value} {vl vu vk : Value} {Q : Value → Shared → Prop} (ht : IsTup s.heap t items) (hs : s.heap.IsSliceOf sl vl vu vk) (pl : IsPart vl none) (pu : IsPart vu none) (pk : IsPart vk (some (-1)))
    (h : Q (.ref s.heap.objs.size) { s with heap := s.heap.push { cls := .type "tuple", data := .seq items.toList.reverse.toArray } })
    (hsz : items.size ≤ sizeLine) : wpAny (model prog w) A (getItem (.ref t) (.ref sl)) Q E s := by
  have htake : sizeOk (.seq items.toList.reverse.toArray) := by
    show items.toList.reverse.toArray.size ≤ sizeLine
    rw [List.size_toArray, List.length_reverse, Array.length_toList]
    omega
  obtain ⟨os, hos, hcs, hds⟩ := id hs
  have hTs : s.TypeIs (.ref sl) "slice" := ⟨os, hos, hcs⟩
  unfold getItem
  try with_reducible refine wpAny_holding ?_
  first | refine wpAny_bind (wpAny_pure ?_) | skip
  refine wpAny_bind (wpAny_sequenceKey ht.typeIs (by decide) ?_)
  refine wpAny_bind (wpAny_callSpecial?_slot (name := Str.ofString "__getitem__") ht.typeIs PyProof.Rows.slot_tuple_getitem
    (wpAny_call_entry PyProof.Rows.slot_tuple_getitem ht.typeIs entry_tuple_getitem ?_ (args_tuple_getitem _ _)))
  show wpAny _ _ (Builtin.Tuple.tupleItemsOf (.ref t) >>= _) _ _ s
  refine wpAny_bind (tupleItemsOf_ ht ?_)
  refine wpAny_bind (wpAny_typeOf hTs ?_)
  rw [if_pos (by decide)]
  refine wpAny_bind (rev_applied hs pl pu pk ?_)
  have hno : ¬ ((((items.size : Int) - 1) == 0 && (-1 : Int) == 1 && items.size == items.size) = true) := by
    intro q
    rw [Bool.and_eq_true, Bool.and_eq_true] at q
    exact absurd q.1.2 (by decide)
  show wpAny _ _ (if (((items.size : Int) - 1) == 0 && (-1 : Int) == 1 && items.size == items.size) = true then _ else _) _ _ s
  rw [if_neg hno, rev_pick]
  first
    | exact wpAny_bind (m := Builtin.Tuple.tupleExact _) (wpAny_newObj_type (wpAny_pure ⟨_, rfl, wpAny_pure h⟩) htake)
    | exact wpAny_bind (m := Builtin.Tuple.tupleExact _) (wpAny_newObj_type (wpAny_bind (wpAny_pure (wpAny_pure ⟨_, rfl, wpAny_pure h⟩))) htake)
    | exact wpAny_bind (wpAny_bind (m := Builtin.Tuple.tupleExact _) (wpAny_newObj_type (wpAny_pure (wpAny_pure ⟨_, rfl, wpAny_pure h⟩)) htake))
    | exact wpAny_bind (wpAny_bind (m := Builtin.Tuple.tupleExact _) (wpAny_newObj_type (wpAny_pure ⟨_, rfl, wpAny_pure h⟩) htake))
end
section
variable {X : Cx}
def rRevA (K : PySem.W.Frag) : V → Hp → VK → Prop := fun x H1 Q => (∃ a xs, x = .ref a ∧ SqL K H1 a xs ∧ ∀ p, H1 p = none → Q (.ref p) (upd H1 p (.lst xs.reverse))) ∨
  (∃ a xs, x = .ref a ∧ SqT K H1 a xs ∧ ∀ p, H1 p = none → Q (.ref p) (upd H1 p (.tup xs.reverse)))
theorem pe_revA {e : Expr} {te : TE} {k : Nat} {p1 p2 p3 pos : Pos} (he : PE X e te) : PE X (.Subscript e (.Slice none none (some (.UnaryOp .USub (.Constant (.int 1) k p1) p2)) p3) pos) (tUn (rRevA X.K) te) := by
  refine ⟨fun pins s σ H Q I h => ?_⟩
  refine Subscript_ (thn (he.run pins s σ H _ I h) fun v s1 ⟨x, H1, I1, r1, q1⟩ => ?_)
  have hst : PO X (some (.UnaryOp .USub (.Constant (.int 1) k p1) p2)) (tPart (tUn (rU fun i => .int (-i)) (tC (.int 1)))) := po_some (pe_un un_neg pe_int)
  refine wpAny_Slice (thn (po_none.run pins s1 σ H1 (fun o H2 => o = none ∧ H2 = H1) I1 ⟨rfl, rfl⟩) fun vl s2 ⟨l, H2, I2, pl, el, e2⟩ => ?_)
  subst el e2
  refine thn (po_none.run pins s2 σ H2 (fun o H3 => o = none ∧ H3 = H2) I2 ⟨rfl, rfl⟩) fun vu s3 ⟨u, H3, I3, pu, eu, e3⟩ => ?_
  subst eu e3
  refine thn (hst.run pins s3 σ H3 (fun o H4 => o = some (-1) ∧ H4 = H3) I3 ⟨1, rfl, -1, rfl, rfl, rfl⟩) fun vs s4 ⟨o, H4, I4, ps, eo, e4⟩ => ?_
  subst eo e4
  have I5 : Inv X pins σ H4 { s4 with heap := s4.heap.push { cls := .type "slice", data := .fields #[vl, vu, vs] } } := I4.kept (t' := s4.toks) fun b ob q => Heap.get?_push_of_some _ q
  rcases q1 with ⟨a, xs, ex, hx, q⟩ | ⟨a, xs, ex, hx, q⟩
  · subst ex
    cases r1
    obtain ⟨its, r, ht, hz⟩ := I5.list hx
    have hlen := r.length
    show wpAny (model X.prog X.w) X.A (subscriptTail e (.Slice none none (some (.UnaryOp .USub (.Constant (.int 1) k p1) p2)) p3) (.ref a) (.ref s4.heap.objs.size)) (EP X pins σ Q) X.xe { s4 with heap := s4.heap.push { cls := .type "slice", data := .fields #[vl, vu, vs] } }
    refine tail_any (ops := [.ref a, .ref s4.heap.objs.size]) ht.isList.typeIs (PySem.slot_list_getitem.lookup) ?_ (by with_unfolding_all rfl)
    refine wpAny_getItem_list_slice ht.isList (Heap.IsSliceOf.new _ vl vu vs) pl pu ps (by decide) ?_ (by rw [List.size_toArray]; omega)
    rw [PySem.W.krv_pick]
    refine ⟨.ref _, _, I5.laid (t' := s4.toks) (o := .lst xs.reverse) (fun b ob q => Heap.get?_push_of_some _ q) (Nat.le_refl _) ?_, rfl, q _ (I5.hok.fresh (Nat.le_refl _))⟩
    exact ⟨by rw [List.length_reverse]; exact hz, _, 0, r.reverse, Heap.get?_push_size _ rfl⟩
  · subst ex
    cases r1
    obtain ⟨its, r, ht, hz⟩ := I5.tuple hx
    have hlen := r.length
    show wpAny (model X.prog X.w) X.A (subscriptTail e (.Slice none none (some (.UnaryOp .USub (.Constant (.int 1) k p1) p2)) p3) (.ref a) (.ref s4.heap.objs.size)) (EP X pins σ Q) X.xe { s4 with heap := s4.heap.push { cls := .type "slice", data := .fields #[vl, vu, vs] } }
    refine tail_any (ops := [.ref a, .ref s4.heap.objs.size]) ht.typeIs (PyProof.Rows.slot_tuple_getitem.lookup) ?_ (by with_unfolding_all rfl)
    refine getItem_tuple_rev ht (Heap.IsSliceOf.new _ vl vu vs) pl pu ps ?_ (by rw [List.size_toArray]; omega)
    refine ⟨.ref _, _, I5.laid (t' := s4.toks) (o := .tup xs.reverse) (fun b ob q => Heap.get?_push_of_some _ q) (Nat.le_refl _) ?_, rfl, q _ (I5.hok.fresh (Nat.le_refl _))⟩
    exact ⟨by rw [List.length_reverse]; exact hz, _, r.reverse, _, Heap.get?_push_size _ rfl, rfl, 0, rfl⟩
/-- a op1 b op2 c op3 e, as a value -/
def tChain3 (r r' r'' : R2) (ta tb tc td : TE) : TE := fun σ H Q => ta σ H fun x H1 => tb σ H1 fun y H2 => r x y H2 fun z H3 => ∃ k, z = .bl k ∧
  (if k = true then tc σ H3 fun w' H4 => r' y w' H4 fun z' H5 => ∃ k', z' = .bl k' ∧ (if k' = true then td σ H5 fun v' H6 => r'' w' v' H6 Q else Q (.bl false) H5) else Q (.bl false) H3)
theorem pe_chain3 {a b c d : Expr} {ta tb tc td : TE} {pos : Pos} {op op' op'' : CmpOp} {r r' r'' : R2} (ho : OpR X (compareOp op) r) (ho' : OpR X (compareOp op') r') (ho'' : OpR X (compareOp op'') r'') (ha : PE X a ta) (hb : PE X b tb) (hc : PE X c tc) (hd : PE X d td)
    (hm : lastMarks [op, op', op''] [b, c, d] = false := by with_unfolding_all rfl) : PE X (.Compare a [op, op', op''] [b, c, d] pos) (tChain3 r r' r'' ta tb tc td) := by
  refine ⟨fun pins s σ H Q I h => ?_⟩
  refine Compare_chain (thn (ha.run pins s σ H _ I h) fun v s1 ⟨x, H1, I1, r1, q1⟩ => chain_link (thn (hb.run pins s1 σ H1 _ I1 q1) fun u s2 ⟨y, H2, I2, r2, q2⟩ =>
    thn (ho pins s2 σ H2 x y v u _ I2 r1 r2 q2) fun d s3 ⟨z, H3, I3, r3, k, e, q3⟩ => ?_)) hm
  subst e
  cases r3
  refine wpAny_truthy_bool ?_
  cases k with
  | false => exact ite_ff ⟨.bl false, H3, I3, rfl, q3⟩
  | true =>
    refine ite_tt (chain_link (thn (hc.run pins s3 σ H3 _ I3 q3) fun w' s4 ⟨z', H4, I4, r4, q4⟩ => thn (ho' pins s4 σ H4 y z' u w' _ I4 r2 r4 q4) fun d' s5 ⟨z5, H5, I5, r5, k', e', q5⟩ => ?_))
    subst e'
    cases r5
    refine wpAny_truthy_bool ?_
    cases k' with
    | false => exact ite_ff ⟨.bl false, H5, I5, rfl, q5⟩
    | true => exact ite_tt (chain_last (thn (hd.run pins s5 σ H5 _ I5 q5) fun w6 s6 ⟨z6, H6, I6, r6, q6⟩ => ho'' pins s6 σ H6 z' z6 w' w6 Q I6 r4 r6 q6))
end
def eChain3 (f f' f'' : Mem → SV → SV → Option SV) (a b c d : SE) : SE := fun ρ M => (a ρ M).bind fun x => (b ρ x.2).bind fun y => (f y.2 x.1 y.1).bind fun z => match z with
  | .dat (.bool k) => if k = true then (c ρ y.2).bind fun w => (f' w.2 y.1 w.1).bind fun u => match u with
      | .dat (.bool k') => if k' = true then (d ρ w.2).bind fun v => (f'' v.2 w.1 v.1).bind fun t => some (t, v.2) else some (.dat (.bool false), w.2)
      | _ => none
    else some (.dat (.bool false), y.2)
  | _ => none
def dRev : PyData → Option PyData
  | .list ds => some (.list ds.reverse)
  | .tuple ds => some (.tuple ds.reverse)
  | _ => none
section
variable {K : PySem.W.Frag}
theorem us_rev : UnS K (rRevA K) (lift1 dRev) := us_lift (by
  intro x z e G H v sm dx Q q
  cases dx <;> first | cases e | skip
  · rename_i a xs ds hs ha
    refine .inl ⟨a, xs, rfl, sm.seq hs, fun p hp => ?_⟩
    exact q _ _ _ (.new hp) (.lst (SqL.of upd_same) (ha.reverse.mono (same_upd (none_of_same sm hp))))
  · rename_i a xs ds hs ha
    refine .inr ⟨a, xs, rfl, same_sqT sm hs, fun p hp => ?_⟩
    exact q _ _ _ (.new hp) (.tup (SqT.of upd_same) (ha.reverse.mono (same_upd (none_of_same sm hp)))))
theorem ev_rev {ta : TE} {a : SE} (ha : EvS K ta a) : EvS K (tUn (rRevA K) ta) (eUn (lift1 dRev) a) := ev_un ha us_rev
theorem ev_chain3 {ta tb tc td : TE} {a b c d : SE} {r r' r'' : R2} {f f' f'' : Mem → SV → SV → Option SV} (ha : EvS K ta a) (hb : EvS K tb b) (hc : EvS K tc c) (hd : EvS K td d) (ho : OpS K r f) (ho' : OpS K r' f') (ho'' : OpS K r'' f'') : EvS K (tChain3 r r' r'' ta tb tc td) (eChain3 f f' f'' a b c d) := by
  intro ρ M z M' h F π G H σ R S Q q
  unfold eChain3 at h
  obtain ⟨⟨x, M1⟩, h1, h⟩ := Option.bind_eq_some_iff.mp h
  obtain ⟨⟨y, M2⟩, h2, h⟩ := Option.bind_eq_some_iff.mp h
  obtain ⟨z', h3, h⟩ := Option.bind_eq_some_iff.mp h
  refine ha ρ M x M1 h1 F π G H σ R S _ fun π1 G1 H1 v1 g1 R1 s1 => ?_
  refine hb ρ M1 y M2 h2 F π1 G1 H1 σ R1 (S.gr g1) _ fun π2 G2 H2 v2 g2 R2 s2 => ?_
  refine ho M2 x y z' h3 F π2 G2 H2 v1 v2 R2 (s1.gr g2) s2 _ fun G3 H3 u al s3 => ?_
  have g3 := (g1.trans g2).trans (Gr.of (R2.alSame al))
  have R3 := R2.al al
  cases s3 with
  | cel _ => cases h
  | dat hd3 =>
    cases hd3 with
    | bl i =>
      refine ⟨i, rfl, ?_⟩
      cases i with
      | false =>
        rw [if_neg Bool.false_ne_true]
        cases h
        exact q π2 G3 H3 _ g3 R3 (.dat (.bl false))
      | true =>
        rw [if_pos rfl]
        dsimp only at h
        rw [if_pos rfl] at h
        obtain ⟨⟨w, M3⟩, h4, h⟩ := Option.bind_eq_some_iff.mp h
        obtain ⟨u', h5, h⟩ := Option.bind_eq_some_iff.mp h
        refine hc ρ M2 w M3 h4 F π2 G3 H3 σ R3 (S.gr g3) _ fun π4 G4 H4 v4 g4 R4 s4 => ?_
        refine ho' M3 y w u' h5 F π4 G4 H4 v2 v4 R4 ((s2.gr (Gr.of (R2.alSame al))).gr g4) s4 _ fun G5 H5 u al5 s5 => ?_
        have g5 := (g3.trans g4).trans (Gr.of (R4.alSame al5))
        have R5 := R4.al al5
        cases s5 with
        | cel _ => cases h
        | dat hd5 =>
          cases hd5 with
          | bl i =>
            refine ⟨i, rfl, ?_⟩
            cases i with
            | false =>
              rw [if_neg Bool.false_ne_true]
              cases h
              exact q π4 G5 H5 _ g5 R5 (.dat (.bl false))
            | true =>
              rw [if_pos rfl]
              dsimp only at h
              rw [if_pos rfl] at h
              obtain ⟨⟨v, M4⟩, h6, h⟩ := Option.bind_eq_some_iff.mp h
              obtain ⟨t, h7, h⟩ := Option.bind_eq_some_iff.mp h
              cases h
              refine hd ρ M3 v M4 h6 F π4 G5 H5 σ R5 (S.gr g5) _ fun π6 G6 H6 v6 g6 R6 s6 => ?_
              exact ho'' M4 w v _ h7 F π6 G6 H6 v4 v6 R6 ((s4.gr (Gr.of (R4.alSame al5))).gr g6) s6 Q fun G7 H7 u al7 s7 => q π6 G7 H7 u ((g5.trans g6).trans (.of (R6.alSame al7))) (R6.al al7) s7
          | _ => cases h
    | _ => cases h
end
end Sm

/-! SmV: how the plain functions are reckoned. -/
namespace Sm
open PySem L2

/-! ### steps -/
section
variable {ρ : Rho} {M M1 M2 M3 : Mem} {x y z : SV} {a b c : SE}
theorem eOp_eq {f : Mem → SV → SV → Option SV} (h1 : a ρ M = some (x, M1)) (h2 : b ρ M1 = some (y, M2)) (h3 : f M2 x y = some z) : eOp f a b ρ M = some (z, M2) := by
  simp only [eOp, h1, h2, h3, Option.bind_some]
theorem eUn_eq {f : Mem → SV → Option SV} (h1 : a ρ M = some (x, M1)) (h3 : f M1 x = some z) : eUn f a ρ M = some (z, M1) := by
  simp only [eUn, h1, h3, Option.bind_some]
theorem aNil_eq : aNil ρ M = some ([], M) := rfl
theorem aCons_eq {as : SA} {xs : List SV} (h1 : a ρ M = some (x, M1)) (h2 : as ρ M1 = some (xs, M2)) : aCons a as ρ M = some (x :: xs, M2) := by
  simp only [aCons, h1, h2, Option.bind_some]
theorem eCB_eq {f : Mem → List SV → Option SV} {as : SA} {xs : List SV} (h1 : as ρ M = some (xs, M1)) (h2 : f M1 xs = some z) : eCB f as ρ M = some (z, M1) := by
  simp only [eCB, h1, h2, Option.bind_some]
theorem eCall_eq {f : SF} {as : SA} {xs : List SV} {r : Option (SV × Mem)} (h1 : as ρ M = some (xs, M1)) (h2 : f xs M1 = r) : eCall f as ρ M = r := by
  simp only [eCall, h1, h2, Option.bind_some]
theorem eTup_eq {as : SA} {xs : List SV} {ds : List PyData} (h1 : as ρ M = some (xs, M1)) (h2 : dats xs = some ds) (h3 : ds.length ≤ 100000) : eTup as ρ M = some (.dat (.tuple ds), M1) := by
  simp only [eTup, h1, h2, Option.bind_some, h3, if_true]
theorem eLst_eq {as : SA} {xs : List SV} {ds : List PyData} (h1 : as ρ M = some (xs, M1)) (h2 : dats xs = some ds) (h3 : ds.length ≤ 100000) : eLst as ρ M = some (.dat (.list ds), M1) := by
  simp only [eLst, h1, h2, Option.bind_some, h3, if_true]
theorem eNew_eq {as : SA} {xs : List SV} (h1 : as ρ M = some (xs, M1)) (h3 : xs.length ≤ 100000) : eNew as ρ M = some (.cel M1.length, M1 ++ [some xs]) := by
  simp only [eNew, h1, Option.bind_some, h3, if_true]
theorem eIf_t {t : SB} {r : Option (SV × Mem)} (h1 : t ρ M = some (true, M1)) (h2 : a ρ M1 = r) : eIf t a b ρ M = r := by
  simp only [eIf, h1, Option.bind_some, h2, if_true]
theorem eIf_f {t : SB} {r : Option (SV × Mem)} (h1 : t ρ M = some (false, M1)) (h2 : b ρ M1 = r) : eIf t a b ρ M = r := by
  simp only [eIf, h1, Option.bind_some, h2, Bool.false_eq_true, if_false]
theorem bVal_eq {v : Bool} (h1 : a ρ M = some (.dat (.bool v), M1)) : bVal a ρ M = some (v, M1) := by
  simp only [bVal, h1, Option.bind_some]
theorem bNot_eq {t : SB} {v : Bool} (h1 : t ρ M = some (v, M1)) : bNot t ρ M = some (!v, M1) := by
  simp only [bNot, h1, Option.bind_some]
theorem bAnd_eq {t u : SB} {v w : Bool} (h1 : t ρ M = some (v, M1)) (h2 : v = true → u ρ M1 = some (w, M1)) : bAnd t u ρ M = some (v && w, M1) := by
  cases v with
  | true => simp only [bAnd, h1, Option.bind_some, if_true, h2 rfl, Bool.true_and]
  | false => simp only [bAnd, h1, Option.bind_some, Bool.false_eq_true, if_false, Bool.false_and]
theorem bOr_eq {t u : SB} {v w : Bool} (h1 : t ρ M = some (v, M1)) (h2 : v = false → u ρ M1 = some (w, M1)) : bOr t u ρ M = some (v || w, M1) := by
  cases v with
  | false => simp only [bOr, h1, Option.bind_some, Bool.false_eq_true, if_false, h2 rfl, Bool.false_or]
  | true => simp only [bOr, h1, Option.bind_some, if_true, Bool.true_or]
theorem eAnd_eq {v w : Bool} (h1 : a ρ M = some (.dat (.bool v), M1)) (h2 : v = true → b ρ M1 = some (.dat (.bool w), M1)) : eAnd a b ρ M = some (.dat (.bool (v && w)), M1) := by
  cases v with
  | true => simp only [eAnd, h1, Option.bind_some, if_true, h2 rfl, Bool.true_and]
  | false => simp only [eAnd, h1, Option.bind_some, Bool.false_eq_true, if_false, Bool.false_and]
theorem eOr_eq {v w : Bool} (h1 : a ρ M = some (.dat (.bool v), M1)) (h2 : v = false → b ρ M1 = some (.dat (.bool w), M1)) : eOr a b ρ M = some (.dat (.bool (v || w)), M1) := by
  cases v with
  | false => simp only [eOr, h1, Option.bind_some, Bool.false_eq_true, if_false, h2 rfl, Bool.false_or]
  | true => simp only [eOr, h1, Option.bind_some, if_true, Bool.true_or]
theorem eNot_eq {v : Bool} (h1 : a ρ M = some (.dat (.bool v), M1)) : eNot a ρ M = some (.dat (.bool (!v)), M1) := by
  simp only [eNot, h1, Option.bind_some]
theorem sSeq_nx {s u : SS} {ρ1 : Rho} {r : Option Ctl} (h1 : s ρ M = some (.nx ρ1 M1)) (h2 : u ρ1 M1 = r) : sSeq s u ρ M = r := by
  simp only [sSeq, h1, Option.bind_some, h2]
theorem sSeq_rt {s u : SS} {v : SV} (h1 : s ρ M = some (.rt v M1)) : sSeq s u ρ M = some (.rt v M1) := by
  simp only [sSeq, h1, Option.bind_some]
theorem sAsg_eq {g : SG} {ρ1 : Rho} (h1 : a ρ M = some (x, M1)) (h2 : g x ρ M1 = some (ρ1, M2)) : sAsg a g ρ M = some (.nx ρ1 M2) := by
  simp only [sAsg, h1, h2, Option.bind_some]
theorem sRet_eq (h1 : a ρ M = some (x, M1)) : sRet a ρ M = some (.rt x M1) := by
  simp only [sRet, h1, Option.bind_some]
theorem sIf_t {t : SB} {s u : SS} {r : Option Ctl} (h1 : t ρ M = some (true, M1)) (h2 : s ρ M1 = r) : sIf t s u ρ M = r := by
  simp only [sIf, h1, Option.bind_some, h2, if_true]
theorem sIf_f {t : SB} {s u : SS} {r : Option Ctl} (h1 : t ρ M = some (false, M1)) (h2 : u ρ M1 = r) : sIf t s u ρ M = r := by
  simp only [sIf, h1, Option.bind_some, h2, Bool.false_eq_true, if_false]
theorem sFor_eq {it : SI} {g : SG} {s : SS} {ds : List PyData} {r : Option Ctl} (h1 : it ρ M = some (ds, M1)) (h2 : loop g s ds ρ M1 = r) : sFor it g s ρ M = r := by
  simp only [sFor, h1, Option.bind_some, h2]
theorem sPar_eq {i j : Nat} {as : SA} {u v : SV} (h1 : as ρ M = some ([u, v], M1)) : sPar i j as ρ M = some (.nx ((ρ.set i (some u)).set j (some v)) M1) := by
  simp only [sPar, h1, Option.bind_some]
theorem loop_nx {g : SG} {s : SS} {d : PyData} {ds : List PyData} {ρ1 ρ2 : Rho} {r : Option Ctl} (h1 : g (.dat d) ρ M = some (ρ1, M1)) (h2 : s ρ1 M1 = some (.nx ρ2 M2)) (h3 : loop g s ds ρ2 M2 = r) : loop g s (d :: ds) ρ M = r := by
  simp only [loop, h1, Option.bind_some, h2, h3]
theorem whl_nx {t : SB} {s : SS} {n : Nat} {ρ2 : Rho} {r : Option Ctl} (h1 : t ρ M = some (true, M1)) (h2 : s ρ M1 = some (.nx ρ2 M2)) (h3 : whl t s n ρ2 M2 = r) : whl t s (n + 1) ρ M = r := by
  simp only [whl, h1, Option.bind_some, if_true, h2, h3]
theorem whl_end {t : SB} {s : SS} {n : Nat} (h1 : t ρ M = some (false, M1)) : whl t s (n + 1) ρ M = some (.nx ρ M1) := by
  simp only [whl, h1, Option.bind_some, Bool.false_eq_true, if_false]
theorem lcL_cons {g : SG} {el : SE} {d : PyData} {ds : List PyData} {ρ1 : Rho} {x : PyData} {xs : List PyData} (h1 : g (.dat d) ρ M = some (ρ1, M)) (h2 : el ρ1 M = some (.dat x, M1)) (h3 : lcL g bYes el ρ ds M1 = some (xs, M2)) : lcL g bYes el ρ (d :: ds) M = some (x :: xs, M2) := by
  simp only [lcL, h1, Option.bind_some, bYes, if_true, h2, h3]
theorem mkF_rt {n : Nat} {s : SS} {args : List SV} {d : PyData} (h : s (args.map some ++ List.replicate (n - args.length) none) M = some (.rt (.dat d) M1)) : mkF n s args M = some (.dat d, M1.take M.length) := by
  simp only [mkF, h, Option.bind_some, fin]
theorem mkF_rt0 {n : Nat} {s : SS} {args : List SV} {d : PyData} (h : s (args.map some ++ List.replicate (n - args.length) none) M = some (.rt (.dat d) M)) : mkF n s args M = some (.dat d, M) := by
  simp only [mkF, h, Option.bind_some, fin, List.take_length]
theorem mkF_rtL {n : Nat} {s : SS} {args : List SV} {d : PyData} (hl : M1.length = M.length) (h : s (args.map some ++ List.replicate (n - args.length) none) M = some (.rt (.dat d) M1)) : mkF n s args M = some (.dat d, M1) := by
  rw [mkF_rt h, ← hl, List.take_length]
theorem eLc_eq {it : SI} {g : SG} {tt : SB} {el : SE} {vs : List Nat} {ds out : List PyData} (h1 : it ρ M = some (ds, M1)) (h2 : ds.length ≤ 100000) (h3 : lcL g tt el (wipeR ρ vs) ds M1 = some (out, M2)) : eLc it g tt el vs ρ M = some (.dat (.list out), M2) := by
  simp only [eLc, h1, Option.bind_some, h2, if_true, h3]
theorem lcL_map {g : SG} {el : SE} {f : PyData → PyData} : ∀ (ds : List PyData), (∀ d ∈ ds, ∃ ρ1, g (.dat d) ρ M = some (ρ1, M) ∧ el ρ1 M = some (.dat (f d), M)) → lcL g bYes el ρ ds M = some (ds.map f, M)
  | [], _ => rfl
  | d :: ds, h => by
    obtain ⟨ρ1, e1, e2⟩ := h d List.mem_cons_self
    have ih := lcL_map ds (fun x hx => h x (List.mem_cons_of_mem _ hx))
    simp only [lcL, e1, Option.bind_some, bYes, if_true, e2, ih, List.map_cons]
theorem lcL_filter {g : SG} {tt : SB} {el : SE} {p : PyData → Bool} {f : PyData → PyData} : ∀ (ds : List PyData), (∀ d ∈ ds, ∃ ρ1, g (.dat d) ρ M = some (ρ1, M) ∧ tt ρ1 M = some (p d, M) ∧ (p d = true → el ρ1 M = some (.dat (f d), M))) → lcL g tt el ρ ds M = some ((ds.filter p).map f, M)
  | [], _ => rfl
  | d :: ds, h => by
    obtain ⟨ρ1, e1, e2, e3⟩ := h d List.mem_cons_self
    have ih := lcL_filter ds (fun x hx => h x (List.mem_cons_of_mem _ hx))
    cases hp : p d with
    | true => 
      rw [hp] at e2 e3
      simp only [lcL, e1, Option.bind_some, e2, if_true, e3 rfl, ih, List.filter_cons_of_pos hp, List.map_cons]
    | false =>
      rw [hp] at e2
      have hp' : ¬ (p d = true) := by rw [hp]; exact Bool.false_ne_true
      simp only [lcL, e1, Option.bind_some, e2, Bool.false_eq_true, if_false, ih, List.filter_cons_of_neg hp']
/-- a loop by what holds between the turns -/
theorem loop_inv {g : SG} {s : SS} (I : Nat → Rho → Mem → Prop) : ∀ (ds : List PyData) (n : Nat) (ρ : Rho) (M : Mem), I n ρ M →
    (∀ (i : Nat) (d : PyData) (ρ : Rho) (M : Mem), ds[i]? = some d → I (n + i) ρ M → ∃ ρ1 M1 ρ2 M2, g (.dat d) ρ M = some (ρ1, M1) ∧ s ρ1 M1 = some (.nx ρ2 M2) ∧ I (n + i + 1) ρ2 M2) →
    ∃ ρ' M', loop g s ds ρ M = some (.nx ρ' M') ∧ I (n + ds.length) ρ' M'
  | [], n, ρ, M, h, _ => ⟨ρ, M, rfl, h⟩
  | d :: ds, n, ρ, M, h, hs => by
    obtain ⟨ρ1, M1, ρ2, M2, e1, e2, h2⟩ := hs 0 d ρ M rfl h
    obtain ⟨ρ', M', e3, h3⟩ := loop_inv I ds (n + 1) ρ2 M2 h2 (fun i d' ρ M hd hI => by
      have := hs (i + 1) d' ρ M (by simpa using hd) (by rw [show n + (i + 1) = n + 1 + i by omega]; exact hI)
      rw [show n + 1 + i + 1 = n + (i + 1) + 1 by omega]
      exact this)
    refine ⟨ρ', M', loop_nx e1 e2 e3, ?_⟩
    rw [List.length_cons, show n + (ds.length + 1) = n + 1 + ds.length by omega]
    exact h3
theorem lcL_inv {g : SG} {el : SE} {ρ : Rho} (I : Nat → Mem → Prop) (P : PyData → Prop) : ∀ (ds : List PyData) (n : Nat) (M : Mem), I n M →
    (∀ (i : Nat) (d : PyData) (M : Mem), ds[i]? = some d → I (n + i) M → ∃ ρ1 x M1, g (.dat d) ρ M = some (ρ1, M) ∧ el ρ1 M = some (.dat x, M1) ∧ P x ∧ I (n + i + 1) M1) →
    ∃ out M', lcL g bYes el ρ ds M = some (out, M') ∧ out.length = ds.length ∧ (∀ x ∈ out, P x) ∧ I (n + ds.length) M'
  | [], n, M, h, _ => ⟨[], M, rfl, rfl, (fun _ z => nomatch z), h⟩
  | d :: ds, n, M, h, hs => by
    obtain ⟨ρ1, x, M1, e1, e2, hP, h2⟩ := hs 0 d M rfl h
    obtain ⟨out, M', e3, hl, hO, h3⟩ := lcL_inv I P ds (n + 1) M1 h2 (fun i d' M hd hI => by
      have := hs (i + 1) d' M (by simpa using hd) (by rw [show n + (i + 1) = n + 1 + i by omega]; exact hI)
      rw [show n + 1 + i + 1 = n + (i + 1) + 1 by omega]
      exact this)
    refine ⟨x :: out, M', lcL_cons e1 e2 e3, by simp [hl], fun y hy => ?_, ?_⟩
    · rcases List.mem_cons.mp hy with q | q
      · rw [q]; exact hP
      · exact hO y q
    · rw [List.length_cons, show n + (ds.length + 1) = n + 1 + ds.length by omega]
      exact h3
theorem sApp_eq {o : SE} {i : Nat} {d : PyData} {xs0 xs : List SV} (h1 : o ρ M = some (.cel i, M1)) (h2 : a ρ M1 = some (.dat d, M2)) (h3 : M1[i]? = some (some xs0)) (h4 : M2[i]? = some (some xs)) (h5 : xs.length < 100000) : sApp o a ρ M = some (.nx ρ (M2.set i (some (xs ++ [.dat d])))) := by
  simp only [sApp, h1, h2, Option.bind_some, h3, h4, h5, if_true]
theorem sFrz_eq {i j : Nat} {s : SS} {ρ1 : Rho} {xs : List SV} {ds : List PyData} (h1 : s ρ M = some (.nx ρ1 M1)) (h2 : ρ1[i]? = some (some (.cel j))) (h3 : M1[j]? = some (some xs)) (h4 : dats xs = some ds) : sFrz i s ρ M = some (.nx (ρ1.set i (some (.dat (.list ds)))) (M1.set j none)) := by
  simp only [sFrz, h1, Option.bind_some, h2, h3, h4]
theorem dats_map : ∀ ds : List PyData, dats (ds.map SV.dat) = some ds
  | [] => rfl
  | d :: ds => by simp only [List.map_cons, dats, dats_map ds, Option.bind_some]
end
/-! ### leaves -/
section
variable {M : Mem} {i j : Int}
theorem l_add : lift2 dAdd M (.dat (.int i)) (.dat (.int j)) = some (.dat (.int (i + j))) := rfl
theorem l_sub : lift2 dSub M (.dat (.int i)) (.dat (.int j)) = some (.dat (.int (i - j))) := rfl
theorem l_lt : lift2 dLt M (.dat (.int i)) (.dat (.int j)) = some (.dat (.bool (decide (i < j)))) := rfl
theorem l_le : lift2 dLe M (.dat (.int i)) (.dat (.int j)) = some (.dat (.bool (decide (i ≤ j)))) := rfl
theorem l_gt : lift2 dGt M (.dat (.int i)) (.dat (.int j)) = some (.dat (.bool (decide (j < i)))) := rfl
theorem l_ge : lift2 dGe M (.dat (.int i)) (.dat (.int j)) = some (.dat (.bool (decide (j ≤ i)))) := rfl
theorem l_eq : lift2 dEq M (.dat (.int i)) (.dat (.int j)) = some (.dat (.bool (i == j))) := rfl
theorem l_ne : lift2 dNe M (.dat (.int i)) (.dat (.int j)) = some (.dat (.bool (!(i == j)))) := rfl
theorem l_eqS {x y : Str} : lift2 dEq M (.dat (.str x)) (.dat (.str y)) = some (.dat (.bool (x == y))) := rfl
theorem l_neS {x y : Str} : lift2 dNe M (.dat (.str x)) (.dat (.str y)) = some (.dat (.bool (!(x == y)))) := rfl
theorem l_mod (h : 0 < j) : lift2 dMod M (.dat (.int i)) (.dat (.int j)) = some (.dat (.int (i % j))) := by
  simp [lift2, dMod, dI, h]
theorem l_div (h : 0 < j) (h2 : j < 2 ^ 64) : lift2 dDiv M (.dat (.int i)) (.dat (.int j)) = some (.dat (.int (i / j))) := by
  have h2' : j < 18446744073709551616 := h2
  simp [lift2, dDiv, dI, h, h2']
theorem l_pow {n : Nat} (h : n ≤ 64) (h1 : -(2 ^ 64) < i) (h2 : i < 2 ^ 64) : lift2 dPow M (.dat (.int i)) (.dat (.int (n : Int))) = some (.dat (.int (i ^ n))) := by
  have h1' : -18446744073709551616 < i := h1
  have h2' : i < 18446744073709551616 := h2
  have h3 : (n : Int) ≤ 64 := by omega
  simp [lift2, dPow, dI, h1', h2', h3]
theorem l_mul (h : (-(2 ^ 64) < i ∧ i < 2 ^ 64) ∨ (-(2 ^ 64) < j ∧ j < 2 ^ 64)) : lift2 dMul M (.dat (.int i)) (.dat (.int j)) = some (.dat (.int (i * j))) := by
  have : mulOk i j = true := by
    unfold mulOk
    simp only [Bool.or_eq_true, Bool.and_eq_true, decide_eq_true_eq]
    exact h
  simp [lift2, dMul, this]
theorem iR1_eq {ρ : Rho} {M M1 : Mem} {as : SA} (h : as ρ M = some ([.dat (.int j)], M1)) (h1 : -(2 ^ 62) ≤ j) (h2 : j < 2 ^ 62) : iR1 as ρ M = some (rangeD 0 j, M1) := by
  unfold iR1
  rw [h]
  show (if -(2 ^ 62) ≤ j ∧ j < 2 ^ 62 then some (rangeD 0 j, M1) else none) = _
  rw [if_pos ⟨h1, h2⟩]
theorem iR2_eq {ρ : Rho} {M M1 : Mem} {as : SA} (h : as ρ M = some ([.dat (.int i), .dat (.int j)], M1)) (h1 : -(2 ^ 62) ≤ i) (h2 : i < 2 ^ 62) (h3 : -(2 ^ 62) ≤ j) (h4 : j < 2 ^ 62) : iR2 as ρ M = some (rangeD i j, M1) := by
  unfold iR2
  rw [h]
  show (if (-(2 ^ 62) ≤ i ∧ i < 2 ^ 62) ∧ -(2 ^ 62) ≤ j ∧ j < 2 ^ 62 then some (rangeD i j, M1) else none) = _
  rw [if_pos ⟨⟨h1, h2⟩, h3, h4⟩]
theorem eLr2_eq {ρ : Rho} {M M1 M2 : Mem} {a b : SE} (ha : a ρ M = some (.dat (.int i), M1)) (hb : b ρ M1 = some (.dat (.int j), M2)) (h1 : -(2 ^ 20) ≤ i) (h2 : i < 2 ^ 20) (h3 : -(2 ^ 20) ≤ j) (h4 : j < 2 ^ 20) : eLr2 a b ρ M = some (.dat (.list (rangeD i j)), M2) := by
  simp only [eLr2, ha, hb, Option.bind_some]
  rw [if_pos ⟨⟨h1, h2⟩, h3, h4⟩]
theorem iDat_l {ρ : Rho} {M M1 : Mem} {a : SE} {ds : List PyData} (h : a ρ M = some (.dat (.list ds), M1)) : iDat a ρ M = some (ds, M1) := by
  simp only [iDat, h, Option.bind_some]
theorem iDat_t {ρ : Rho} {M M1 : Mem} {a : SE} {ds : List PyData} (h : a ρ M = some (.dat (.tuple ds), M1)) : iDat a ρ M = some (ds, M1) := by
  simp only [iDat, h, Option.bind_some]
theorem l_isi {T : String} {d : PyData} {b : Bool} (h : kitB (tyD d) T = some b) : fIsi T M (.dat d) = some (.dat (.bool b)) := by
  simp only [fIsi, lift1, h, Option.bind_some]
theorem l_reprB {d : PyData} (h : (d.showable && decide (d.depth ≤ 64) && decide (wt d ≤ 8000000) && (!d.hasDict || !hasList d)) = true) : lift1 dRepr M (.dat d) = some (.dat (.str d.shown)) := by
  simp only [lift1, dRepr, h, if_true, Option.bind_some]
theorem l_repr {d : PyData} (h : (d.showable && decide (d.depth ≤ 64) && decide (wt d ≤ 1000000) && (!d.hasDict || !hasList d)) = true) : lift1 dRepr M (.dat d) = some (.dat (.str d.shown)) := by
  refine l_reprB ?_
  rw [Bool.and_eq_true, Bool.and_eq_true, Bool.and_eq_true, decide_eq_true_eq, decide_eq_true_eq] at h ⊢
  exact ⟨⟨h.1.1, by omega⟩, h.2⟩
theorem ki_ii : kitB "int" "int" = some true := by decide +kernel
theorem ki_ib : kitB "int" "bool" = some false := by decide +kernel
theorem ki_bi : kitB "bool" "int" = some true := by decide +kernel
theorem ki_bb : kitB "bool" "bool" = some true := by decide +kernel
theorem ki_ni : kitB "NoneType" "int" = some false := by decide +kernel
theorem ki_si : kitB "str" "int" = some false := by decide +kernel
theorem ki_li : kitB "list" "int" = some false := by decide +kernel
theorem ki_ti : kitB "tuple" "int" = some false := by decide +kernel
theorem ki_di : kitB "dict" "int" = some false := by decide +kernel
theorem ki_it : kitB "int" "tuple" = some false := by decide +kernel
theorem ki_bt : kitB "bool" "tuple" = some false := by decide +kernel
theorem ki_nt : kitB "NoneType" "tuple" = some false := by decide +kernel
theorem ki_st : kitB "str" "tuple" = some false := by decide +kernel
theorem ki_lt : kitB "list" "tuple" = some false := by decide +kernel
theorem ki_tt : kitB "tuple" "tuple" = some true := by decide +kernel
theorem ki_dt : kitB "dict" "tuple" = some false := by decide +kernel
theorem isI (d : PyData) : ∃ b, kitB (tyD d) "int" = some b ∧ (b = true ↔ (∃ i, d = .int i) ∨ ∃ b, d = .bool b) := by
  cases d <;> simp only [tyD, ki_ii, ki_bi, ki_ni, ki_si, ki_li, ki_ti, ki_di, Option.some.injEq] <;> exact ⟨_, rfl, by simp⟩
theorem isT (d : PyData) : ∃ b, kitB (tyD d) "tuple" = some b ∧ (b = true ↔ ∃ ds, d = .tuple ds) := by
  cases d <;> simp only [tyD, ki_it, ki_bt, ki_nt, ki_st, ki_lt, ki_tt, ki_dt, Option.some.injEq] <;> exact ⟨_, rfl, by simp⟩
theorem atI_in {α : Type} {xs : List α} {i : Int} {k : Nat} {x : α} (hi : i = (k : Int)) (hx : xs[k]? = some x) : atI xs i = some x := by
  obtain ⟨hk, _⟩ := List.getElem?_eq_some_iff.mp hx
  subst hi
  unfold atI ixN
  have h1 : (0 : Int) ≤ (k : Int) := by omega
  have h2 : (k : Int) < (xs.length : Int) := by omega
  rw [if_pos h1, if_pos h2]
  simpa using hx
theorem ixN_in {n k : Nat} (h : k < n) : ixN n (k : Int) = some k := by
  unfold ixN
  have h1 : (0 : Int) ≤ (k : Int) := by omega
  have h2 : (k : Int) < (n : Int) := by omega
  rw [if_pos h1, if_pos h2]; simp
theorem l_eqNil {M : Mem} : ∀ xs : List PyData, lift2 dEq M (.dat (.list xs)) (.dat (.list [])) = some (.dat (.bool xs.isEmpty))
  | [] => by
    have h : (SeqAt.shaped (PyData.list []) && SeqAt.shaped (PyData.list [])) = true := by decide
    simp only [lift2, dEq, h, if_true, Option.bind_some]
    rfl
  | x :: t => by
    have h1 : PyData.eqv (.list (x :: t)) (.list []) = false := by simp [PyData.eqv, PyData.eqvAll]
    simp only [lift2, dEq]
    split
    · simp [h1]
    · simp [lenNe]
theorem l_neg : lift1 dNeg M (.dat (.int i)) = some (.dat (.int (-i))) := rfl
end
end Sm

/-! SmW: more steps, for a way that goes by itself. -/
namespace Sm
open PySem L2
section
variable {ρ : Rho} {M M1 M2 M3 : Mem} {x y z : SV} {a b c : SE}
theorem eVar_eq {i : Nat} (h : ρ[i]? = some (some x)) : eVar i ρ M = some (x, M) := by
  simp only [eVar, h]
theorem eC_eq {d : PyData} : eC d ρ M = some (.dat d, M) := rfl
theorem eC_e {d : PyData} (h : SV.dat d = x) : eC d ρ M = some (x, M) := by rw [← h]; rfl
theorem eD0_eq : eD0 ρ M = some (.dat (.dict []), M) := rfl
theorem eD1_eq {k : Str} {d : PyData} (h : a ρ M = some (.dat d, M1)) : eD1 k a ρ M = some (.dat (.dict [(.str k, d)]), M1) := by
  simp only [eD1, h, Option.bind_some]
theorem oNone_eq : oNone ρ M = some (none, M) := rfl
theorem oSome_eq {i : Int} (h : a ρ M = some (.dat (.int i), M1)) : oSome a ρ M = some (some i, M1) := by
  simp only [oSome, h, Option.bind_some]
theorem eSl_eq {f : Mem → SV → Option Int → Option Int → Option SV} {l u : SO} {lo hi : Option Int} (h1 : a ρ M = some (x, M1)) (h2 : l ρ M1 = some (lo, M2)) (h3 : u ρ M2 = some (hi, M3)) (h4 : f M3 x lo hi = some z) : eSl f a l u ρ M = some (z, M3) := by
  simp only [eSl, h1, h2, h3, h4, Option.bind_some]
theorem ble_le {n m : Nat} (h : Nat.ble n m = true) : n ≤ m := Nat.le_of_ble_eq_true h
theorem eTup_e {as : SA} {xs : List SV} {ds : List PyData} (h1 : as ρ M = some (xs, M1)) (h2 : dats xs = some ds) (h3 : Nat.ble ds.length 100000 = true) : eTup as ρ M = some (.dat (.tuple ds), M1) := eTup_eq h1 h2 (ble_le h3)
theorem eLst_e {as : SA} {xs : List SV} {ds : List PyData} (h1 : as ρ M = some (xs, M1)) (h2 : dats xs = some ds) (h3 : Nat.ble ds.length 100000 = true) : eLst as ρ M = some (.dat (.list ds), M1) := eLst_eq h1 h2 (ble_le h3)
theorem ite_T {α : Type} {v : Bool} {p q r : α} (h : v = true) (h2 : p = r) : (if v = true then p else q) = r := by rw [if_pos h]; exact h2
theorem ite_F {α : Type} {v : Bool} {p q r : α} (h : v = false) (h2 : q = r) : (if v = true then p else q) = r := by rw [if_neg (by rw [h]; exact Bool.false_ne_true)]; exact h2
theorem bVal_e {v : Bool} (h1 : a ρ M = some (x, M1)) (h2 : x = .dat (.bool v)) : bVal a ρ M = some (v, M1) := by
  subst h2; exact bVal_eq h1
theorem bOr_e {t u : SB} {v : Bool} {r : Option (Bool × Mem)} (h1 : t ρ M = some (v, M1)) (h2 : (if v = true then some (true, M1) else u ρ M1) = r) : bOr t u ρ M = r := by
  simp only [bOr, h1, Option.bind_some]; exact h2
theorem bAnd_e {t u : SB} {v : Bool} {r : Option (Bool × Mem)} (h1 : t ρ M = some (v, M1)) (h2 : (if v = true then u ρ M1 else some (false, M1)) = r) : bAnd t u ρ M = r := by
  simp only [bAnd, h1, Option.bind_some]; exact h2
theorem or_gen {v w : Bool} {s : Option (Bool × Mem)} (h : s = some (w, M1)) : (if v = true then some (true, M1) else s) = some (v || w, M1) := by
  cases v with
  | true => simp
  | false => simp [h]
theorem and_gen {v w : Bool} {s : Option (Bool × Mem)} (h : s = some (w, M1)) : (if v = true then s else some (false, M1)) = some (v && w, M1) := by
  cases v with
  | false => simp
  | true => simp [h]
theorem eOr_e {v : Bool} {r : Option (SV × Mem)} (h1 : a ρ M = some (.dat (.bool v), M1)) (h2 : (if v = true then some (.dat (.bool true), M1) else b ρ M1) = r) : eOr a b ρ M = r := by
  simp only [eOr, h1, Option.bind_some]; exact h2
theorem eAnd_e {v : Bool} {r : Option (SV × Mem)} (h1 : a ρ M = some (.dat (.bool v), M1)) (h2 : (if v = true then b ρ M1 else some (.dat (.bool false), M1)) = r) : eAnd a b ρ M = r := by
  simp only [eAnd, h1, Option.bind_some]; exact h2
theorem eor_gen {v w : Bool} {s : Option (SV × Mem)} (h : s = some (.dat (.bool w), M1)) : (if v = true then some (.dat (.bool true), M1) else s) = some (.dat (.bool (v || w)), M1) := by
  cases v with
  | true => simp
  | false => simp [h]
theorem eand_gen {v w : Bool} {s : Option (SV × Mem)} (h : s = some (.dat (.bool w), M1)) : (if v = true then s else some (.dat (.bool false), M1)) = some (.dat (.bool (v && w)), M1) := by
  cases v with
  | false => simp
  | true => simp [h]
theorem eIf_e {t : SB} {v : Bool} {r : Option (SV × Mem)} (h1 : t ρ M = some (v, M1)) (h2 : (if v = true then a ρ M1 else b ρ M1) = r) : eIf t a b ρ M = r := by
  simp only [eIf, h1, Option.bind_some]; exact h2
theorem sIf_e {t : SB} {v : Bool} {s u : SS} {r : Option Ctl} (h1 : t ρ M = some (v, M1)) (h2 : (if v = true then s ρ M1 else u ρ M1) = r) : sIf t s u ρ M = r := by
  simp only [sIf, h1, Option.bind_some]; exact h2
theorem bTru_b {v : Bool} (h1 : a ρ M = some (.dat (.bool v), M1)) : bTru a ρ M = some (v, M1) := by
  simp only [bTru, h1, Option.bind_some]
theorem eChain_e {f f' : Mem → SV → SV → Option SV} {w : SV} {k k' : Bool} (h1 : a ρ M = some (x, M1)) (h2 : b ρ M1 = some (y, M2)) (h3 : f M2 x y = some (.dat (.bool k))) (h4 : c ρ M2 = some (w, M2)) (h5 : f' M2 y w = some (.dat (.bool k'))) : eChain f f' a b c ρ M = some (.dat (.bool (k && k')), M2) := by
  cases k <;> simp [eChain, h1, h2, h3, h4, h5]
theorem eChain3_e {f f' f'' : Mem → SV → SV → Option SV} {e : SE} {w u : SV} {k k' k'' : Bool} (h1 : a ρ M = some (x, M1)) (h2 : b ρ M1 = some (y, M2)) (h3 : f M2 x y = some (.dat (.bool k))) (h4 : c ρ M2 = some (w, M2)) (h5 : f' M2 y w = some (.dat (.bool k'))) (h6 : e ρ M2 = some (u, M2)) (h7 : f'' M2 w u = some (.dat (.bool k''))) :
    eChain3 f f' f'' a b c e ρ M = some (.dat (.bool (k && (k' && k''))), M2) := by
  cases k <;> cases k' <;> simp [eChain3, h1, h2, h3, h4, h5, h6, h7]
def seqK (c : Ctl) (u : SS) : Option Ctl := match c with
  | .nx ρ' M' => u ρ' M'
  | c => some c
theorem sSeq_e {s u : SS} {k : Ctl} {r : Option Ctl} (h1 : s ρ M = some k) (h2 : seqK k u = r) : sSeq s u ρ M = r := by
  simp only [sSeq, h1, Option.bind_some]; exact h2
theorem seqK_nx {u : SS} {r : Option Ctl} (h : u ρ M = r) : seqK (.nx ρ M) u = r := h
theorem seqK_rt {u : SS} {v : SV} : seqK (.rt v M) u = some (.rt v M) := rfl
theorem sNext_eq : sNext ρ M = some (.nx ρ M) := rfl
theorem gNm_eq {i : Nat} : gNm i x ρ M = some (ρ.set i (some x), M) := rfl
theorem gTp_eq {is : List Nat} {ds : List PyData} (h : (ds.length == is.length) = true) : gTp is (.dat (.tuple ds)) ρ M = some (setAll is ds ρ, M) := by
  have : ds.length = is.length := eq_of_beq h
  simp only [gTp, this, if_true]
theorem gNm_e {i : Nat} {ρ' : Rho} (h : ρ.set i (some x) = ρ') : gNm i x ρ M = some (ρ', M) := by rw [← h]; rfl
theorem gTp_e {is : List Nat} {ds : List PyData} {ρ' : Rho} (h : (ds.length == is.length) = true) (h2 : setAll is ds ρ = ρ') : gTp is (.dat (.tuple ds)) ρ M = some (ρ', M) := by
  rw [← h2]; exact gTp_eq h
theorem one_eq {f : Mem → SV → Option SV} (h : f M x = some z) : one f M [x] = some z := h
theorem l_ixL {ds : List PyData} {i : Int} {d : PyData} (h : atI ds i = some d) : fIx M (.dat (.list ds)) (.dat (.int i)) = some (.dat d) := by
  simp only [fIx, h, Option.bind_some]
theorem l_ixT {ds : List PyData} {i : Int} {d : PyData} (h : atI ds i = some d) : fIx M (.dat (.tuple ds)) (.dat (.int i)) = some (.dat d) := by
  simp only [fIx, h, Option.bind_some]
theorem l_slL {ds : List PyData} {lo hi : Option Int} : fSl M (.dat (.list ds)) lo hi = some (.dat (.list (cutD ds lo hi))) := rfl
theorem l_slT {ds : List PyData} {lo hi : Option Int} : fSl M (.dat (.tuple ds)) lo hi = some (.dat (.tuple (cutD ds lo hi))) := rfl
theorem l_lenL {ds : List PyData} : fLen M (.dat (.list ds)) = some (.dat (.int (ds.length : Int))) := rfl
theorem l_lenT {ds : List PyData} : fLen M (.dat (.tuple ds)) = some (.dat (.int (ds.length : Int))) := rfl
theorem l_addT {xs ys : List PyData} (h : Nat.ble (xs.length + ys.length) 100000 = true) : lift2 dAdd M (.dat (.tuple xs)) (.dat (.tuple ys)) = some (.dat (.tuple (xs ++ ys))) := by
  simp only [lift2, dAdd, ble_le h, if_true, Option.bind_some]
theorem l_addL {xs ys : List PyData} (h : Nat.ble (xs.length + ys.length) 100000 = true) : lift2 dAdd M (.dat (.list xs)) (.dat (.list ys)) = some (.dat (.list (xs ++ ys))) := by
  simp only [lift2, dAdd, ble_le h, if_true, Option.bind_some]
theorem mkF_e {n : Nat} {s : SS} {args : List SV} {d : PyData} (h : s (args.map some ++ List.replicate (n - args.length) none) M = some (.rt (.dat d) M1)) (hl : M1.length = M.length) : mkF n s args M = some (.dat d, M1) := mkF_rtL hl h
theorem mkF_c {n : Nat} {s : SS} {args : List SV} {i : Nat} (h : s (args.map some ++ List.replicate (n - args.length) none) M = some (.rt (.cel i) M1)) : mkF n s args M = some (.cel i, M1) := by
  simp only [mkF, h, Option.bind_some, fin]
theorem pi_true {x : SV} (h : x = .dat (.bool true)) : x = .dat (.bool true) := h
theorem it_tt {T : String} {ds : List PyData} {b : Bool} (h : kitB "tuple" T = some b) : fIsi T M (.dat (.tuple ds)) = some (.dat (.bool b)) := l_isi h
theorem l_neSS {x : Str} : lift2 dNe M (.dat (.str x)) (.dat (.str x)) = some (.dat (.bool false)) := by
  rw [l_neS, beq_self_eq_true]; rfl
theorem l_eqSS {x : Str} : lift2 dEq M (.dat (.str x)) (.dat (.str x)) = some (.dat (.bool true)) := by
  rw [l_eqS, beq_self_eq_true]
theorem l_neBS {v : Bool} : lift2 dNe M (.dat (.bool v)) (.dat (.bool v)) = some (.dat (.bool false)) := by cases v <;> rfl
theorem l_eqBS {v : Bool} : lift2 dEq M (.dat (.bool v)) (.dat (.bool v)) = some (.dat (.bool true)) := by cases v <;> rfl
theorem l_neB {v w : Bool} : lift2 dNe M (.dat (.bool v)) (.dat (.bool w)) = some (.dat (.bool (!(v == w)))) := by cases v <;> cases w <;> rfl
theorem l_eqB {v w : Bool} : lift2 dEq M (.dat (.bool v)) (.dat (.bool w)) = some (.dat (.bool (v == w))) := by cases v <;> cases w <;> rfl
theorem sIx0 (n d : Nat) : HT.sIx n d none = d := rfl
theorem cut_take (ds : List PyData) (n : Nat) : cutD ds none (some (n : Int)) = ds.take n := by
  unfold cutD
  rw [sIx0, HT.sIx_nat, List.drop_zero, Nat.sub_zero]
  by_cases h : n ≤ ds.length
  · rw [Nat.min_eq_left h]
  · rw [Nat.min_eq_right (by omega), List.take_of_length_le (Nat.le_refl _), List.take_of_length_le (by omega)]
theorem cut_drop (ds : List PyData) (n : Nat) : cutD ds (some (n : Int)) none = ds.drop n := by
  unfold cutD
  rw [sIx0, HT.sIx_nat]
  by_cases h : n ≤ ds.length
  · rw [Nat.min_eq_left h, List.take_of_length_le (by rw [List.length_drop]; exact Nat.le_refl _)]
  · rw [Nat.min_eq_right (by omega), List.drop_of_length_le (Nat.le_refl _), List.drop_of_length_le (by omega)]
    simp
/-! kinds -/
def kInt : PyData → Bool
  | .int _ => true
  | .bool _ => true
  | _ => false
def kBool : PyData → Bool
  | .bool _ => true
  | _ => false
def kTup : PyData → Bool
  | .tuple _ => true
  | _ => false
def kNum : PyData → Bool
  | .int _ => true
  | _ => false
theorem ki_nb : kitB "NoneType" "bool" = some false := by decide +kernel
theorem ki_sb : kitB "str" "bool" = some false := by decide +kernel
theorem ki_lb : kitB "list" "bool" = some false := by decide +kernel
theorem ki_tb : kitB "tuple" "bool" = some false := by decide +kernel
theorem ki_db : kitB "dict" "bool" = some false := by decide +kernel
theorem isi_int (d : PyData) : fIsi "int" M (.dat d) = some (.dat (.bool (kInt d))) := by
  cases d <;> simp only [fIsi, lift1, tyD, ki_ii, ki_bi, ki_ni, ki_si, ki_li, ki_ti, ki_di, Option.bind_some, kInt]
theorem isi_bool (d : PyData) : fIsi "bool" M (.dat d) = some (.dat (.bool (kBool d))) := by
  cases d <;> simp only [fIsi, lift1, tyD, ki_ib, ki_bb, ki_nb, ki_sb, ki_lb, ki_tb, ki_db, Option.bind_some, kBool]
theorem isi_tup (d : PyData) : fIsi "tuple" M (.dat d) = some (.dat (.bool (kTup d))) := by
  cases d <;> simp only [fIsi, lift1, tyD, ki_it, ki_bt, ki_nt, ki_st, ki_lt, ki_tt, ki_dt, Option.bind_some, kTup]
theorem knum (d : PyData) : (kInt d && !kBool d) = kNum d := by cases d <;> rfl
end
end Sm

/-! SmZ: list(zip(a, b)), tuple(zip(a, b)), of lists and tuples. -/
namespace Sm
open PySem PySem.Spec PyProof.Rows L2
section
variable {prog : Program} {w : World} {A : Around} {E : Value → Shared → Prop} {s : Shared} {z TI TO i1 i2 T : Addr} {fp1 fp2 : List Addr} {n1 n2 i : Nat} {P1 P2 : Nat → Value → Prop} {St1 St2 : Nat → Heap → Prop} {f : Bool} {oT : Obj}
theorem zk_item {Q : Value → Shared → Prop} (S : ZipSep2 z TI TO i1 i2 fp1 fp2) (D1 : Draws prog w A i1 fp1 n1 P1 St1) (D2 : Draws prog w A i2 fp2 n2 P2 St2) (hz : IsZipHeld s.heap z TI TO T f) (hT : s.heap.get? T = some oT) (hTI : IsTupOf2 s.heap TI (.ref i1) (.ref i2)) (st1 : St1 i s.heap) (st2 : St2 i s.heap) (l1 : i < n1) (l2 : i < n2)
    (hQ : ∀ x1 x2 h' tk, P1 i x1 → P2 i x2 → IsZipHeld h' z TI TO T true → St1 (i + 1) h' → St2 (i + 1) h' → IsTupOf2 h' s.heap.objs.size x1 x2 → h'.objs.size = s.heap.objs.size + 1 → (∀ c o, c ≠ z → c ≠ i1 → c ≠ i2 → s.heap.get? c = some o → h'.get? c = some o) → Q (.ref s.heap.objs.size) { s with heap := h', toks := tk }) :
    wpAny (model prog w) A (Builtin.«zip.__next__» ⟨[.ref z], []⟩) (fun r s' => ∃ v, r = .done (.ret v) ∧ Q v s') E s := by
  obtain ⟨hp, g, d, tk0, os⟩ := s
  show wpAny _ _ (field (.ref z) 2 >>= _) _ _ ⟨hp, g, d, tk0, os⟩; refine wpAny_bind (wpAny_field hz rfl (x := .bool false) rfl ?_)
  show wpAny _ _ (field (.ref z) 3 >>= _) _ _ ⟨hp, g, d, tk0, os⟩; refine wpAny_bind (wpAny_field hz rfl (x := .ref TI) rfl (wpAny_bind (wpAny_seqItems hTI rfl ?_)))
  show wpAny _ _ (Builtin.SmallTypes.ownedTupleIsFree (.ref z) >>= _) _ _ ⟨hp, g, d, tk0, os⟩; refine wpAny_bind (wpAny_tupleHeld_zip hz hT fun g0 hz0 hs0 => ?_)
  replace hs0 : Heap.SameBut z hp g0 := hs0; simp only [Bool.false_eq_true, if_false]
  refine wpAny_bind ?_; rw [← Array.forIn_toList]; simp only [List.forIn_cons, List.forIn_nil]
  refine wpAny_bind (wpAny_bind (wpAny_holding ?_)); show wpAny _ _ (Builtin.SmallTypes.nextOf (.ref i1) >>= _) _ _ ⟨g0, g, d, tk0, os⟩
  refine wpAny_bind (D1.item i _ _ _ l1 (D1.over st1 hs0 S.zf1) fun x1 p1 tk1 hx1 sn1 hp1 => wpAny_pure (wpAny_pure ?_)); replace hp1 : Heap.SameBut i1 g0 p1 := hp1
  refine wpAny_bind (wpAny_bind (wpAny_holding ?_)); show wpAny _ _ (Builtin.SmallTypes.nextOf (.ref i2) >>= _) _ _ ⟨p1, g, d, tk1, os⟩
  refine wpAny_bind (D2.item i _ _ _ l2 (D2.over (D2.over st2 hs0 S.zf2) hp1 S.sep1_2) fun x2 p2 tk2 hx2 sn2 hp2 => wpAny_pure (wpAny_pure (wpAny_pure ?_))); replace hp2 : Heap.SameBut i2 p1 p2 := hp2
  show wpAny _ _ (newTuple [x1, x2] >>= _) _ _ ⟨p2, g, d, tk2, os⟩; refine wpAny_bind (wpAny_newTuple (wpAny_pure ⟨_, rfl, ?_⟩))
  have hsz : p2.objs.size = hp.objs.size := by rw [hp2.1, hp1.1, hs0.1]
  have hzz : IsZipHeld p2 z TI TO T true := hp2.extBut _ _ S.zi2 (hp1.extBut _ _ S.zi1 hz0)
  show Q (.ref p2.objs.size) ⟨p2.push { cls := .type "tuple", data := .seq #[x1, x2] }, g, d, tk2, os⟩
  have ht : IsTupOf2 (p2.push { cls := .type "tuple", data := .seq #[x1, x2] }) p2.objs.size x1 x2 := Heap.get?_push_size _ rfl
  have hz4 : (p2.push { cls := .type "tuple", data := .seq #[x1, x2] }).objs.size = p2.objs.size + 1 := Heap.size_push ..
  rw [hsz] at ht hz4 ⊢
  exact hQ x1 x2 _ tk2 hx1 hx2 (Heap.get?_push_of_some _ hzz) (D1.frame _ _ _ (D1.over sn1 hp2 S.sep2_1) fun b _ o e => Heap.get?_push_of_some _ e) (D2.frame _ _ _ sn2 fun b _ o e => Heap.get?_push_of_some _ e) ht hz4 fun c o c1 c2 c3 e => Heap.get?_push_of_some _ (hp2.extBut _ _ c3 (hp1.extBut _ _ c2 (hs0.extBut _ _ c1 e)))
theorem zk_end {Q : PySem.Fin → Shared → Prop} (S : ZipSep2 z TI TO i1 i2 fp1 fp2) (D1 : Draws prog w A i1 fp1 n1 P1 St1) (D2 : Draws prog w A i2 fp2 n2 P2 St2) (hz : IsZipHeld s.heap z TI TO T f) (hT : s.heap.get? T = some oT) (hTI : IsTupOf2 s.heap TI (.ref i1) (.ref i2)) (st1 : St1 i s.heap) (st2 : St2 i s.heap) (l1 : i ≤ n1) (l2 : i ≤ n2) (hend : i = n1 ∨ i = n2)
    (hE : ∀ h' tk e, (∀ c o, c ≠ z → c ≠ i1 → c ≠ i2 → s.heap.get? c = some o → h'.get? c = some o) → (∃ o, h'.get? e = some o ∧ o.cls = .type "StopIteration") → E (.ref e) { s with heap := h', toks := tk }) :
    wpAny (model prog w) A (Builtin.«zip.__next__» ⟨[.ref z], []⟩) Q E s := by
  obtain ⟨hp, g, d, tk0, os⟩ := s
  show wpAny _ _ (field (.ref z) 2 >>= _) _ _ ⟨hp, g, d, tk0, os⟩; refine wpAny_bind (wpAny_field hz rfl (x := .bool false) rfl ?_)
  show wpAny _ _ (field (.ref z) 3 >>= _) _ _ ⟨hp, g, d, tk0, os⟩; refine wpAny_bind (wpAny_field hz rfl (x := .ref TI) rfl (wpAny_bind (wpAny_seqItems hTI rfl ?_)))
  show wpAny _ _ (Builtin.SmallTypes.ownedTupleIsFree (.ref z) >>= _) _ _ ⟨hp, g, d, tk0, os⟩; refine wpAny_bind (wpAny_tupleHeld_zip hz hT fun g0 hz0 hs0 => ?_)
  replace hs0 : Heap.SameBut z hp g0 := hs0; simp only [Bool.false_eq_true, if_false]
  refine wpAny_bind ?_; rw [← Array.forIn_toList]; simp only [List.forIn_cons, List.forIn_nil]
  refine wpAny_bind (wpAny_bind (wpAny_holding ?_)); show wpAny _ _ (Builtin.SmallTypes.nextOf (.ref i1) >>= _) _ _ ⟨g0, g, d, tk0, os⟩
  by_cases h1 : i = n1
  · subst h1
    refine wpAny_bind (D1.done _ _ _ (D1.over st1 hs0 S.zf1) fun q e hq he => ?_)
    exact hE q tk0 e (fun c o c1 c2 _ x => hq _ _ c2 (hs0.extBut _ _ c1 x)) he
  · have h2 : i = n2 := hend.resolve_left h1
    have l1' : i < n1 := by omega
    refine wpAny_bind (D1.item i _ _ _ l1' (D1.over st1 hs0 S.zf1) fun x1 p1 tk1 hx1 sn1 hp1 => wpAny_pure (wpAny_pure ?_)); replace hp1 : Heap.SameBut i1 g0 p1 := hp1
    refine wpAny_bind (wpAny_bind (wpAny_holding ?_)); show wpAny _ _ (Builtin.SmallTypes.nextOf (.ref i2) >>= _) _ _ ⟨p1, g, d, tk1, os⟩
    subst h2
    refine wpAny_bind (D2.done _ _ _ (D2.over (D2.over st2 hs0 S.zf2) hp1 S.sep1_2) fun q e hq he => ?_)
    exact hE q tk1 e (fun c o c1 c2 c3 x => hq _ _ c3 (hp1.extBut _ _ c2 (hs0.extBut _ _ c1 x))) he
theorem zk_next {Q : Option Value → Shared → Prop} (S : ZipSep2 z TI TO i1 i2 fp1 fp2) (D1 : Draws prog w A.in1 i1 fp1 n1 P1 St1) (D2 : Draws prog w A.in1 i2 fp2 n2 P2 St2) (hz : IsZipHeld s.heap z TI TO T f) (hT : s.heap.get? T = some oT) (hTI : IsTupOf2 s.heap TI (.ref i1) (.ref i2)) (st1 : St1 i s.heap) (st2 : St2 i s.heap) (l1 : i < n1) (l2 : i < n2)
    (hQ : ∀ x1 x2 h' tk, P1 i x1 → P2 i x2 → IsZipHeld h' z TI TO T true → St1 (i + 1) h' → St2 (i + 1) h' → IsTupOf2 h' s.heap.objs.size x1 x2 → h'.objs.size = s.heap.objs.size + 1 → (∀ c o, c ≠ z → c ≠ i1 → c ≠ i2 → s.heap.get? c = some o → h'.get? c = some o) → Q (some (.ref s.heap.objs.size)) { s with heap := h', toks := tk }) :
    wpAny (model prog w) A (pyNext (.ref z)) Q E s := by
  have ty : s.TypeIs (.ref z) "zip" := ⟨_, hz, rfl⟩
  unfold pyNext
  exact wpAny_bind (wpAny_attempt (wpAny_callSpecial?_slot (name := Str.ofString "__next__") ty F.slot_zip_next (wpAny_call_entry F.slot_zip_next ty F.entry_zip_next (zk_item S D1 D2 hz hT hTI st1 st2 l1 l2 fun x1 x2 h' tk y1 y2 b1 d1 d2 b5 b6 b7 => wpAny_pure (hQ x1 x2 h' tk y1 y2 b1 d1 d2 b5 b6 b7)) (F.args_zip_next_1 _))))
theorem zk_stop {Q : Option Value → Shared → Prop} (S : ZipSep2 z TI TO i1 i2 fp1 fp2) (D1 : Draws prog w A.in1 i1 fp1 n1 P1 St1) (D2 : Draws prog w A.in1 i2 fp2 n2 P2 St2) (hz : IsZipHeld s.heap z TI TO T f) (hT : s.heap.get? T = some oT) (hTI : IsTupOf2 s.heap TI (.ref i1) (.ref i2)) (st1 : St1 i s.heap) (st2 : St2 i s.heap) (l1 : i ≤ n1) (l2 : i ≤ n2) (hend : i = n1 ∨ i = n2)
    (hQ : ∀ h' tk, (∀ c o, c ≠ z → c ≠ i1 → c ≠ i2 → s.heap.get? c = some o → h'.get? c = some o) → Q none { s with heap := h', toks := tk }) : wpAny (model prog w) A (pyNext (.ref z)) Q E s := by
  have ty : s.TypeIs (.ref z) "zip" := ⟨_, hz, rfl⟩
  unfold pyNext
  refine wpAny_bind (wpAny_attempt (wpAny_callSpecial?_slot (name := Str.ofString "__next__") ty F.slot_zip_next (wpAny_call_entry F.slot_zip_next ty F.entry_zip_next (zk_end S D1 D2 hz hT hTI st1 st2 l1 l2 hend fun h' tk e hk he => ?_) (F.args_zip_next_1 _))))
  obtain ⟨o, ho, hc⟩ := he
  exact wpAny_bind (wpAny_isInstance (T := "StopIteration") (b := true) ⟨o, ho, hc⟩ isSubtype_stop (wpAny_pure (hQ _ _ hk)))
/-- a zip between two draws -/
def ZAt (z TI TO i1 i2 : Addr) (St1 St2 : Nat → Heap → Prop) (N : Nat) (i : Nat) (h : Heap) : Prop := IsTupOf2 h TI (.ref i1) (.ref i2) ∧ St1 i h ∧ St2 i h ∧
  ((IsZip h z TI TO .none ∧ ∃ a b, IsTupOf2 h TO a b) ∨ ∃ T f oT, IsZipHeld h z TI TO T f ∧ h.get? T = some oT ∧ N < T)
/-- what has been put into the list: new pairs -/
def Pairs2 (P1 P2 : Nat → Value → Prop) (N : Nat) (acc : Array Value) (i : Nat) (h : Heap) : Prop := acc.size = i ∧ ∀ j v, acc[j]? = some v → ∃ (T : Addr) (x y : Value), v = .ref T ∧ P1 j x ∧ P2 j y ∧ IsTupOf2 h T x y ∧ N < T
theorem zip_loop (S : ZipSep2 z TI TO i1 i2 fp1 fp2) (D1 : Draws prog w A.in1.in1 i1 fp1 n1 P1 St1) (D2 : Draws prog w A.in1.in1 i2 fp2 n2 P2 St2) {n : Nat} (hmin : n = min n1 n2) (hn : n ≤ 100000) (L : Addr) (res : Value) (N : Nat)
    (b1 : ∀ b ∈ fp1, b ≤ N) (b2 : ∀ b ∈ fp2, b ≤ N) (bz : z ≤ N) (bI : TI ≤ N) (bO : TO ≤ N) (bL : L ≤ N) (Lz : L ≠ z) (LI : L ≠ TI) (LO : L ≠ TO) (L1 : L ∉ fp1) (L2 : L ∉ fp2) {R : Result → Shared → Prop} : ∀ (k i : Nat) (s : Shared) (acc : Array Value) (c : Nat), n - i = k → i ≤ n → N < s.heap.objs.size → ZAt z TI TO i1 i2 St1 St2 N i s.heap →
    s.heap.get? L = some { cls := .type "list", dict := none, data := .seq acc c, slots := #[] } → Pairs2 P1 P2 N acc i s.heap →
    (∀ h' tk acc' c', (∀ b o, b ≠ L → b ≠ z → b ≠ TO → b ≠ i1 → b ≠ i2 → s.heap.get? b = some o → h'.get? b = some o) → h'.get? L = some { cls := .type "list", dict := none, data := .seq acc' c', slots := #[] } → Pairs2 P1 P2 N acc' n h' → R (.ok (.ret res)) { s with heap := h', toks := tk }) →
    codeAny (model prog w) A (.builtin "list.extend.loop" ⟨[.ref L, .ref z, res], []⟩) R s := by
  have n1L : L ≠ i1 := fun e => L1 (by rw [e]; exact S.mem1)
  have n2L : L ≠ i2 := fun e => L2 (by rw [e]; exact S.mem2)
  have big : ∀ {T : Addr}, N < T → T ≠ L ∧ T ≠ z ∧ T ≠ TO ∧ T ≠ i1 ∧ T ≠ i2 := fun {T} hT => ⟨Nat.ne_of_gt (Nat.lt_of_le_of_lt bL hT), Nat.ne_of_gt (Nat.lt_of_le_of_lt bz hT), Nat.ne_of_gt (Nat.lt_of_le_of_lt bO hT), Nat.ne_of_gt (Nat.lt_of_le_of_lt (b1 _ S.mem1) hT), Nat.ne_of_gt (Nat.lt_of_le_of_lt (b2 _ S.mem2) hT)⟩
  intro k
  induction k with
  | zero =>
    intro i s acc c hk hi hN hz hL hp hR
    have hin : i = n := by omega
    subst hin
    obtain ⟨hTI, st1, st2, hz⟩ := hz
    refine codeAny_builtin F.entry_extend_loop ?_
    rw [Around.under_plainId F.plain_extend_loop _]; show wpAny _ A.in1 (pyNext (.ref z) >>= _) _ _ s
    have fin : ∀ h' tk, (∀ c o, c ≠ z → c ≠ TO → c ≠ i1 → c ≠ i2 → s.heap.get? c = some o → h'.get? c = some o) → R (.ok (.ret res)) { s with heap := h', toks := tk } := fun h' tk hk =>
      hR h' tk acc c (fun b o _ c1 c2 c3 c4 e => hk b o c1 c2 c3 c4 e) (hk _ _ Lz LO n1L n2L hL) ⟨hp.1, fun j v e => by
        obtain ⟨T, x, y, h1, h2, h3, h4, h5⟩ := hp.2 j v e
        obtain ⟨_, q2, q3, q4, q5⟩ := big h5
        exact ⟨T, x, y, h1, h2, h3, hk _ _ q2 q3 q4 q5 h4, h5⟩⟩
    rcases hz with ⟨hz, a, b, hTO⟩ | ⟨T, f, oT, hz, hT, hNT⟩
    · exact wpAny_bind (wpAny_pyNext_zipD2_end S D1 D2 hz hTI hTO st1 st2 (by omega) (by omega) (by omega) fun h' tk hk => wpAny_pure (fin h' tk hk))
    · exact wpAny_bind (zk_stop S D1 D2 hz hT hTI st1 st2 (by omega) (by omega) (by omega) fun h' tk hk => wpAny_pure (fin h' tk fun c o c1 _ c3 c4 e => hk c o c1 c3 c4 e))
  | succ k ih =>
    intro i s acc c hk hi hN hz hL hp hR
    obtain ⟨hTI, st1, st2, hz⟩ := hz
    refine codeAny_builtin F.entry_extend_loop ?_
    rw [Around.under_plainId F.plain_extend_loop _]; show wpAny _ A.in1 (pyNext (.ref z) >>= _) _ _ s
    have go : ∀ x1 x2 h' tk, P1 i x1 → P2 i x2 → (∃ T f oT, IsZipHeld h' z TI TO T f ∧ h'.get? T = some oT ∧ N < T) → St1 (i + 1) h' → St2 (i + 1) h' → IsTupOf2 h' s.heap.objs.size x1 x2 → h'.objs.size = s.heap.objs.size + 1 → (∀ c o, c ≠ z → c ≠ TO → c ≠ i1 → c ≠ i2 → s.heap.get? c = some o → h'.get? c = some o) →
        wpAny (model prog w) A.in1 (updateSeq L (·.push (.ref s.heap.objs.size)) >>= fun _ => again (.builtin "list.extend.loop" ⟨[.ref L, .ref z, res], []⟩)) (fun fin s' => match fin with | .done f => R (.ok f) s' | .again c' => c'.quiet = true ∧ codeAny (model prog w) A c' R s') (fun e s' => R (.error e) s') { s with heap := h', toks := tk } := by
      intro x1 x2 h' tk p1 p2 hzz t1 t2 ht hsz hk'
      have hL' := hk' _ _ Lz LO n1L n2L hL
      have oth : ∀ b o, b ≠ L → h'.get? b = some o → (h'.update L (Obj.mapSeq (·.push (.ref s.heap.objs.size)))).get? b = some o := fun b o hb e => (Heap.get?_update_other _ _ (Ne.symm hb)).trans e
      refine wpAny_bind (wpAny_updateSeq hL' rfl (wpAny_pure ⟨plainId_quiet F.plain_extend_loop _, ih (i + 1) _ (acc.push (.ref s.heap.objs.size)) _ (by omega) (by omega) ?_ ⟨?_, ?_, ?_, ?_⟩ (Heap.get?_update_self _ hL' rfl) ⟨?_, ?_⟩ fun h'' tk' acc' c' hk'' hL'' hp'' => ?_⟩) (by rw [hp.1, sizeLine_eq]; omega) (by show (acc.push _).size ≤ sizeLine + 1; rw [Array.size_push, hp.1, sizeLine_eq]; omega))
      · show N < (h'.update _ _).objs.size
        rw [Heap.size_update]; omega
      · exact oth _ _ (Ne.symm LI) (hk' _ _ S.TIz S.TITO S.TIi1 S.TIi2 hTI)
      · exact D1.frame _ _ _ t1 fun b hb o e => oth _ _ (fun q => L1 (q ▸ hb)) e
      · exact D2.frame _ _ _ t2 fun b hb o e => oth _ _ (fun q => L2 (q ▸ hb)) e
      · obtain ⟨T, f, oT, q1, q2, q3⟩ := hzz
        exact .inr ⟨T, f, oT, oth _ _ (Ne.symm Lz) q1, oth _ _ (big q3).1 q2, q3⟩
      · rw [Array.size_push, hp.1]
      · intro j v e
        rw [Array.getElem?_push] at e
        split at e
        · rename_i hj
          cases e
          rw [hj, hp.1]
          exact ⟨_, x1, x2, rfl, p1, p2, oth _ _ (big hN).1 ht, hN⟩
        · obtain ⟨T, x, y, h1, h2, h3, h4, h5⟩ := hp.2 j v e
          obtain ⟨q1, q2, q3, q4, q5⟩ := big h5
          exact ⟨T, x, y, h1, h2, h3, oth _ _ q1 (hk' _ _ q2 q3 q4 q5 h4), h5⟩
      · exact hR h'' tk' acc' c' (fun b o c0 c1 c2 c3 c4 e => hk'' b o c0 c1 c2 c3 c4 (oth _ _ c0 (hk' _ _ c1 c2 c3 c4 e))) hL'' hp''
    rcases hz with ⟨hz, a, b, hTO⟩ | ⟨T, f, oT, hz, hT, hNT⟩
    · refine wpAny_bind (wpAny_pyNext_zipD2_item S D1 D2 hz hTI hTO st1 st2 (by omega) (by omega) fun x1 x2 h' tk y1 y2 b1 b2 d1 d2 b5 b6 b7 => ?_)
      exact go x1 x2 h' tk y1 y2 ⟨_, false, _, b1, b5, hN⟩ d1 d2 b5 b6 b7
    · refine wpAny_bind (zk_next S D1 D2 hz hT hTI st1 st2 (by omega) (by omega) fun x1 x2 h' tk y1 y2 b1 d1 d2 b5 b6 b7 => ?_)
      obtain ⟨_, q2, _, q4, q5⟩ := big hNT
      exact go x1 x2 h' tk y1 y2 ⟨T, true, oT, b1, b7 _ _ q2 q4 q5 hT, hNT⟩ d1 d2 b5 b6 fun c o c1 _ c3 c4 e => b7 c o c1 c3 c4 e
end
end Sm

/-! SmZ2: the calls. -/
namespace Sm
open PySem PySem.Spec PyProof.Rows L2
theorem zip_no_len : typeLookup (.type "zip") "__len__" = pure none := by rw [typeLookup_type, builtinLookup_eq_fast]; kernel_rfl
theorem zip_no_hint : typeLookup (.type "zip") "__length_hint__" = pure none := by rw [typeLookup_type, builtinLookup_eq_fast]; kernel_rfl
section
variable {prog : Program} {w : World} {A : Around} {E : Value → Shared → Prop} {s : Shared} {z TI TO i1 i2 : Addr} {fp1 fp2 : List Addr} {n1 n2 : Nat} {P1 P2 : Nat → Value → Prop} {St1 St2 : Nat → Heap → Prop}
theorem zip_extend {R : Result → Shared → Prop} (S : ZipSep2 z TI TO i1 i2 fp1 fp2) (D1 : Draws prog w A.in1.in1 i1 fp1 n1 P1 St1) (D2 : Draws prog w A.in1.in1 i2 fp2 n2 P2 St2) {n : Nat} (hmin : n = min n1 n2) (hn : n ≤ 100000) (L : Addr) (res : Value) (c₀ : Nat)
    (b1 : ∀ b ∈ fp1, b < L) (b2 : ∀ b ∈ fp2, b < L) (bz : z < L) (bI : TI < L) (bO : TO < L) (hz : IsZip s.heap z TI TO .none) (hTI : IsTupOf2 s.heap TI (.ref i1) (.ref i2)) {a b : Value} (hTO : IsTupOf2 s.heap TO a b) (st1 : St1 0 s.heap) (st2 : St2 0 s.heap)
    (hL : s.heap.get? L = some { cls := .type "list", data := .seq #[] c₀ })
    (hR : ∀ h' tk acc' c', (∀ b o, b ≠ L → b ≠ z → b ≠ TO → b ≠ i1 → b ≠ i2 → s.heap.get? b = some o → h'.get? b = some o) → h'.get? L = some { cls := .type "list", dict := none, data := .seq acc' c', slots := #[] } → Pairs2 P1 P2 L acc' n h' → R (.ok (.ret res)) { s with heap := h', toks := tk }) :
    wpAny (model prog w) A.in1 (Builtin.List.listExtendWith (.ref L) (.ref z) res) (fun fin s' => match fin with | .done f => R (.ok f) s' | .again c' => c'.quiet = true ∧ codeAny (model prog w) A c' R s') (fun e s' => R (.error e) s') s := by
  have ty : s.TypeIs (.ref z) "zip" := ⟨_, hz, rfl⟩
  have nz : L ≠ z := Nat.ne_of_gt bz
  have nI : L ≠ TI := Nat.ne_of_gt bI
  have nO : L ≠ TO := Nat.ne_of_gt bO
  have nf1 : L ∉ fp1 := fun h => Nat.lt_irrefl _ (b1 _ h)
  have nf2 : L ∉ fp2 := fun h => Nat.lt_irrefl _ (b2 _ h)
  unfold Builtin.List.listExtendWith
  refine wpAny_bind (wpAny_typeOf ty ?_)
  have e1 : Builtin.List.listSameRef (.ref L) (.ref z) = false := by simp [Builtin.List.listSameRef, nz]
  have e2 : (Value.type "zip" == Value.type "list") = false := by decide
  have e3 : (Value.type "zip" == Value.type "tuple") = false := by decide
  simp only [e1, e2, e3, Bool.or_false, Bool.false_eq_true, if_false]
  refine wpAny_bind (wpAny_pyIter_zip hz (wpAny_bind (wpAny_holding ?_)))
  unfold Builtin.List.listLengthHint
  refine wpAny_bind (wpAny_specialOf ty zip_no_len ?_); show wpAny _ A.in1 (specialOf (Value.ref z) (Str.ofString "__length_hint__") >>= _) _ _ _
  refine wpAny_bind (wpAny_specialOf ty zip_no_hint (wpAny_pure ?_))
  show wpAny _ A.in1 (rule "list.extend.makes-room" >>= fun _ => Builtin.List.listTouch (.ref L) >>= fun _ => again (.builtin "list.extend.loop" ⟨[.ref L, .ref z, res], []⟩)) _ _ _
  refine wpAny_bind (wpAny_rule (wpAny_bind ?_)); show wpAny _ A.in1 (updateSeq L (·.push .none) >>= fun _ => updateSeq L (·.pop)) _ _ _
  refine wpAny_bind (wpAny_updateSeq hL rfl ?_)
  have l2 := Heap.get?_update_self (Obj.mapSeq (·.push Value.none)) hL rfl
  refine wpAny_updateSeq (hz := by seq_fits) l2 rfl ?_
  have l3 := Heap.get?_update_self (Obj.mapSeq (·.pop)) l2 rfl
  have oth : ∀ b o, b ≠ L → s.heap.get? b = some o → ((s.heap.update L (Obj.mapSeq (·.push Value.none))).update L (Obj.mapSeq (·.pop))).get? b = some o := fun b o hb e => (Heap.get?_update_other _ _ (Ne.symm hb)).trans ((Heap.get?_update_other _ _ (Ne.symm hb)).trans e)
  refine wpAny_pure ⟨plainId_quiet F.plain_extend_loop _, zip_loop S D1 D2 hmin hn L res L (fun b h => Nat.le_of_lt (b1 b h)) (fun b h => Nat.le_of_lt (b2 b h)) (Nat.le_of_lt bz) (Nat.le_of_lt bI) (Nat.le_of_lt bO) (Nat.le_refl _) nz nI nO nf1 nf2 n 0 _ _ _ rfl (Nat.zero_le _) ?_ ⟨oth _ _ (Ne.symm nI) hTI, D1.frame _ _ _ st1 fun b hb o e => oth _ _ (fun q => nf1 (q ▸ hb)) e, D2.frame _ _ _ st2 fun b hb o e => oth _ _ (fun q => nf2 (q ▸ hb)) e, .inl ⟨oth _ _ (Ne.symm nz) hz, a, b, oth _ _ (Ne.symm nO) hTO⟩⟩ l3 ⟨rfl, fun j v e => by simp at e⟩ fun h' tk acc' c' hk hl hp => ?_⟩
  · show L < ((s.heap.update _ _).update _ _).objs.size
    rw [Heap.size_update, Heap.size_update]; exact Heap.lt_size hL
  · exact hR h' tk acc' c' (fun b o c0 c1 c2 c3 c4 e => hk b o c0 c1 c2 c3 c4 (oth b o c0 e)) hl hp
/-- list(z) -/
theorem call_list_zip {Q : Value → Shared → Prop} (S : ZipSep2 z TI TO i1 i2 fp1 fp2) (D1 : Draws prog w A.in1.in1.in1 i1 fp1 n1 P1 St1) (D2 : Draws prog w A.in1.in1.in1 i2 fp2 n2 P2 St2) {n : Nat} (hmin : n = min n1 n2) (hn : n ≤ 100000)
    (b1 : ∀ b ∈ fp1, b < s.heap.objs.size) (b2 : ∀ b ∈ fp2, b < s.heap.objs.size) (hz : IsZip s.heap z TI TO .none) (hTI : IsTupOf2 s.heap TI (.ref i1) (.ref i2)) {a b : Value} (hTO : IsTupOf2 s.heap TO a b) (st1 : St1 0 s.heap) (st2 : St2 0 s.heap)
    (hQ : ∀ h' tk acc' c', (∀ b o, b ≠ z → b ≠ TO → b ≠ i1 → b ≠ i2 → s.heap.get? b = some o → h'.get? b = some o) → h'.get? s.heap.objs.size = some { cls := .type "list", dict := none, data := .seq acc' c', slots := #[] } → Pairs2 P1 P2 s.heap.objs.size acc' n h' → Q (.ref s.heap.objs.size) { s with heap := h', toks := tk }) :
    wpAny (model prog w) A (call (.type "list") [.ref z]) Q E s := by
  refine callType_codes (Q₁ := fun obj s₁ => obj = .ref s.heap.objs.size ∧ s₁ = { s with heap := s.heap.push { cls := .type "list", data := .seq #[] } }) F.called_list (F.typeCall_list_1 _) F.entry_list_init (code_list_new _ ⟨rfl, rfl⟩) fun obj s₁ h₁ => ?_
  obtain ⟨rfl, rfl⟩ := h₁
  have l0 : (s.heap.push { cls := .type "list", data := .seq #[] }).get? s.heap.objs.size = some { cls := .type "list", data := .seq #[] } := Heap.get?_push_size _ rfl
  have nz : z < s.heap.objs.size := Heap.lt_size hz
  have nI : TI < s.heap.objs.size := Heap.lt_size hTI
  have nO : TO < s.heap.objs.size := Heap.lt_size hTO
  have l1 := Heap.get?_update_self (Obj.mapSeq (fun _ => (#[] : Array Value))) l0 rfl
  have oth : ∀ b o, s.heap.get? b = some o → ((s.heap.push { cls := .type "list", data := .seq #[] }).update s.heap.objs.size (Obj.mapSeq (fun _ => (#[] : Array Value)))).get? b = some o := fun b o e => (Heap.get?_update_other _ _ (Nat.ne_of_gt (Heap.lt_size e))).trans (Heap.get?_push_of_some _ e)
  refine ⟨⟨_, l0, rfl⟩, F.args_list_init_2 _ _, ?_⟩
  show wpAny _ _ (do let old ← Builtin.List.listItems (.ref s.heap.objs.size); Builtin.List.listUpdate (.ref s.heap.objs.size) (fun _ => #[]); letGo old.toList.reverse; Builtin.List.listExtendWith (.ref s.heap.objs.size) (.ref z) .none) _ _ _
  refine wpAny_bind ?_; unfold Builtin.List.listItems; refine wpAny_bind (wpAny_seqItems l0 rfl (wpAny_pure ?_))
  show wpAny _ _ (updateSeq s.heap.objs.size (fun _ => #[]) >>= fun _ => letGo (#[] : Array Value).toList.reverse >>= fun _ => Builtin.List.listExtendWith (.ref s.heap.objs.size) (.ref z) .none) _ _ _
  refine wpAny_bind (wpAny_updateSeq l0 rfl (wpAny_bind (wpAny_letGo ?_)))
  refine zip_extend (A := A.in1) S D1 D2 hmin hn s.heap.objs.size .none _ b1 b2 nz nI nO (oth _ _ hz) (oth _ _ hTI) (oth _ _ hTO) (D1.frame _ _ _ st1 fun b _ o e => oth b o e) (D2.frame _ _ _ st2 fun b _ o e => oth b o e) l1 fun h' tk acc' c' hk hl hp => ?_
  exact ⟨rfl, hQ h' tk acc' c' (fun b o c1 c2 c3 c4 e => hk b o (Nat.ne_of_lt (Heap.lt_size e)) c1 c2 c3 c4 (oth b o e)) hl hp⟩
theorem zip_collect {Q : List Value → Shared → Prop} (S : ZipSep2 z TI TO i1 i2 fp1 fp2) (D1 : Draws prog w A.in1.in1 i1 fp1 n1 P1 St1) (D2 : Draws prog w A.in1.in1 i2 fp2 n2 P2 St2) {n : Nat} (hmin : n = min n1 n2) (hn : n ≤ 100000)
    (b1 : ∀ b ∈ fp1, b < s.heap.objs.size) (b2 : ∀ b ∈ fp2, b < s.heap.objs.size) (hz : IsZip s.heap z TI TO .none) (hTI : IsTupOf2 s.heap TI (.ref i1) (.ref i2)) {a b : Value} (hTO : IsTupOf2 s.heap TO a b) (st1 : St1 0 s.heap) (st2 : St2 0 s.heap)
    (hQ : ∀ h' tk acc', (∀ b o, b ≠ z → b ≠ TO → b ≠ i1 → b ≠ i2 → s.heap.get? b = some o → h'.get? b = some o) → s.heap.objs.size ≤ h'.objs.size → Pairs2 P1 P2 s.heap.objs.size acc' n h' → Q acc'.toList { s with heap := h', toks := tk }) :
    wpAny (model prog w) A (collect (.ref z)) Q E s := by
  unfold collect
  refine wpAny_bind (wpAny_runValue (codeAny_builtin F.entry_proto_collect ?_)); rw [Around.under_plainId F.plain_proto_collect _]
  show wpAny _ A.in1 (newList [] >>= fun l => again (.builtin "list.__iadd__" ⟨[l, .ref z], []⟩)) _ _ s
  refine wpAny_bind (wpAny_newObj_type (wpAny_pure ⟨plainId_quiet F.plain_list_iadd _, codeAny_builtin F.entry_list_iadd ?_⟩)); rw [Around.under_plainId F.plain_list_iadd _]
  show wpAny _ A.in1 (Builtin.List.listExtendWith (.ref s.heap.objs.size) (.ref z) (.ref s.heap.objs.size)) _ _ _
  have l0 : (s.heap.push { cls := .type "list", data := .seq ([] : List Value).toArray }).get? s.heap.objs.size = some { cls := .type "list", data := .seq #[] 0 } := Heap.get?_push_size _ rfl
  have nz : z < s.heap.objs.size := Heap.lt_size hz
  have nI : TI < s.heap.objs.size := Heap.lt_size hTI
  have nO : TO < s.heap.objs.size := Heap.lt_size hTO
  refine wpAny_mono (zip_extend (A := A) (R := fun rr s' => rr = .ok (.ret (.ref s.heap.objs.size)) ∧ ∃ (h' : Heap) (tk : Nat) (acc : Array Value) (c' : Nat), s' = { s with heap := h', toks := tk } ∧ (∀ b o, b ≠ z → b ≠ TO → b ≠ i1 → b ≠ i2 → s.heap.get? b = some o → h'.get? b = some o) ∧ h'.get? s.heap.objs.size = some { cls := .type "list", dict := none, data := .seq acc c', slots := #[] } ∧ Pairs2 P1 P2 s.heap.objs.size acc n h')
    (s := { s with heap := s.heap.push { cls := .type "list", data := .seq ([] : List Value).toArray } }) S D1 D2 hmin hn s.heap.objs.size _ 0 b1 b2 nz nI nO (Heap.get?_push_of_some _ hz) (Heap.get?_push_of_some _ hTI) (Heap.get?_push_of_some _ hTO) (D1.frame _ _ _ st1 fun b _ o e => Heap.get?_push_of_some _ e) (D2.frame _ _ _ st2 fun b _ o e => Heap.get?_push_of_some _ e) l0
    (fun h' tk acc c' hk e hp => ⟨rfl, h', tk, acc, c', rfl, fun b o c1 c2 c3 c4 q => hk b o (Nat.ne_of_lt (Heap.lt_size q)) c1 c2 c3 c4 (Heap.get?_push_of_some _ q), e, hp⟩)) (fun fin s' h => ?_) (fun e s' h => ?_)
  · cases fin with
    | done f =>
      obtain ⟨e, h', tk, acc, c', rfl, hk, hS', hi⟩ := h
      cases e
      show wpAny _ A (load s.heap.objs.size >>= _) _ _ _; exact wpAny_bind (wpAny_load hS' (wpAny_pure (hQ h' tk acc hk (Nat.le_of_lt (Heap.lt_size hS')) hi)))
    | again c' =>
      refine ⟨h.1, codeAny_mono h.2 fun rr s'' hr' => ?_⟩
      obtain ⟨rfl, h', tk, acc, c', rfl, hk, hS', hi⟩ := hr'
      show wpAny _ A (load s.heap.objs.size >>= _) _ _ _; exact wpAny_bind (wpAny_load hS' (wpAny_pure (hQ h' tk acc hk (Nat.le_of_lt (Heap.lt_size hS')) hi)))
  · exact absurd h.1 (by simp)
theorem code_tuple_zip {Q₁ : Value → Shared → Prop} (S : ZipSep2 z TI TO i1 i2 fp1 fp2) (D1 : Draws prog w A.in1.in1.in1 i1 fp1 n1 P1 St1) (D2 : Draws prog w A.in1.in1.in1 i2 fp2 n2 P2 St2) {n : Nat} (hmin : n = min n1 n2) (hn : n ≤ 100000)
    (b1 : ∀ b ∈ fp1, b < s.heap.objs.size) (b2 : ∀ b ∈ fp2, b < s.heap.objs.size) (hz : IsZip s.heap z TI TO .none) (hTI : IsTupOf2 s.heap TI (.ref i1) (.ref i2)) {a b : Value} (hTO : IsTupOf2 s.heap TO a b) (st1 : St1 0 s.heap) (st2 : St2 0 s.heap)
    (h : ∀ h' tk acc', (∀ b o, b ≠ z → b ≠ TO → b ≠ i1 → b ≠ i2 → s.heap.get? b = some o → h'.get? b = some o) → s.heap.objs.size ≤ h'.objs.size → Pairs2 P1 P2 s.heap.objs.size acc' n h' → Q₁ (.ref h'.objs.size) { s with heap := h'.push { cls := .type "tuple", data := .seq acc' }, toks := tk }) :
    codeAny (model prog w) A (.call (.builtin "tuple.__new__") ⟨[.type "tuple", .ref z], []⟩) (wants Q₁ E) s := by
  refine codeAny_of_tree ?_
  show wpAny _ A.in1 (do checkBuiltinCall "tuple.__new__" ⟨[.type "tuple", .ref z], []⟩; again (.builtin "tuple.__new__" ⟨[.type "tuple", .ref z], []⟩)) _ _ s
  refine wpAny_bind (wpAny_of_eq (F.newCall_tuple_1 _) (wpAny_pure ⟨plainId_quiet F.plain_tuple_new _, codeAny_builtin F.entry_tuple_new ?_⟩)); rw [Around.under_plainId F.plain_tuple_new _]
  have s1 := sub_tuple_self
  have s2 := init_tuple_lookup
  have s3 := madeHere_tuple
  have ty : s.TypeIs (.ref z) "zip" := ⟨_, hz, rfl⟩
  wp_walk using wpAny_typeOf ty, zip_collect (A := A.in1) S D1 D2 hmin hn b1 b2 hz hTI hTO st1 st2
  intro h' tk acc hk hle hacc
  show wpAny _ _ (Builtin.Tuple.tupleExact acc.toList.toArray >>= fun v => ret v) _ _ _; unfold Builtin.Tuple.tupleExact
  refine wpAny_bind (wpAny_newObj_type (wpAny_pure ?_) (by show acc.toList.toArray.size ≤ sizeLine; simp only [Array.toArray_toList]; rw [hacc.1, sizeLine_eq]; omega))
  have e : acc.toList.toArray = acc := by simp
  rw [e]; exact h h' tk acc hk hle hacc
/-- tuple(z) -/
theorem call_tuple_zip {Q : Value → Shared → Prop} (S : ZipSep2 z TI TO i1 i2 fp1 fp2) (D1 : Draws prog w A.in1.in1.in1.in1 i1 fp1 n1 P1 St1) (D2 : Draws prog w A.in1.in1.in1.in1 i2 fp2 n2 P2 St2) {n : Nat} (hmin : n = min n1 n2) (hn : n ≤ 100000)
    (b1 : ∀ b ∈ fp1, b < s.heap.objs.size) (b2 : ∀ b ∈ fp2, b < s.heap.objs.size) (hz : IsZip s.heap z TI TO .none) (hTI : IsTupOf2 s.heap TI (.ref i1) (.ref i2)) {a b : Value} (hTO : IsTupOf2 s.heap TO a b) (st1 : St1 0 s.heap) (st2 : St2 0 s.heap)
    (hQ : ∀ h' tk acc', (∀ b o, b ≠ z → b ≠ TO → b ≠ i1 → b ≠ i2 → s.heap.get? b = some o → h'.get? b = some o) → s.heap.objs.size ≤ h'.objs.size → Pairs2 P1 P2 s.heap.objs.size acc' n h' → Q (.ref h'.objs.size) { s with heap := h'.push { cls := .type "tuple", data := .seq acc' }, toks := tk }) :
    wpAny (model prog w) A (call (.type "tuple") [.ref z]) Q E s := by
  refine callType_codes (Q₁ := fun obj s₁ => s₁.TypeIs obj "tuple" ∧ Q obj s₁) F.called_tuple (F.typeCall_tuple_1 _) F.entry_object_init (code_tuple_zip (A := A.in1) S D1 D2 hmin hn b1 b2 hz hTI hTO st1 st2 fun h' tk acc hk hle hacc => ⟨⟨_, Heap.get?_push_size _ rfl, rfl⟩, hQ h' tk acc hk hle hacc⟩) fun obj s₁ h₁ => ?_
  exact ⟨h₁.1, F.args_object_init_2 obj _, object_init_meets F.called_tuple.init.lookup F.called_tuple.made (by decide) prog w A.in1 _ s₁ ⟨h₁.1, rfl, h₁.2⟩⟩
end
end Sm

/-! SmZ3: list(zip(a, b)), tuple(zip(a, b)) as expressions, and as plain functions. -/
namespace Sm
open PySem PySem.Spec PyProof.Rows L2
section
variable {X : Cx} {pins : List (Addr × Obj)} {σ : List (Option V)} {H H' : Hp} {s : Shared} {h' : Heap} {t' : Nat}
/-- several new objects at once -/
theorem inv_lays (I : Inv X pins σ H s) (k : ∀ b u, s.heap.get? b = some u → h'.get? b = some u) (h1 : Same H H') (h2 : ∀ a o, H' a = some o → H a = some o ∨ (s.heap.objs.size ≤ a ∧ ObjOk X.prog X.w H' h' a o)) : Inv X pins σ H' { s with heap := h', toks := t' } := by
  have fr : ∀ b u, s.heap.get? b = some u → H b = none → H' b = none := fun b u q n => by
    cases e : H' b with
    | none => rfl
    | some o =>
      rcases h2 b o e with z | ⟨z, _⟩
      · rw [n] at z; cases z
      · exact absurd (Heap.lt_size q) (Nat.not_lt.mpr z)
  refine I.un { keep := fun b u q _ _ _ => k b u q, slot := fun b u q _ _ _ => ⟨u.slots, k b u q⟩, free := fun b u q n _ => fr b u q n, there := fun b u q _ => ⟨u, k b u q⟩, tups := fun b xs q => h1 _ _ q, frzs := fun b o u q => h1 _ _ q, tbls := fun b ps q => ⟨#[], by rw [h1 _ _ q]; simp⟩ } fun b u e => ?_
  rcases h2 b u e with z | ⟨_, z⟩
  · exact (I.hok b u z).stay (fun c v _ q => k c v q) (fun c q => h1 _ _ q) fun c xs q => h1 _ _ q
  · exact z
end
/-- a list or a tuple -/
def SqA (K : PySem.W.Frag) (H : Hp) (a : Addr) (xs : List V) : Prop := SqL K H a xs ∨ SqT K H a xs
theorem seq_draws {X : Cx} {pins : List (Addr × Obj)} {σ : List (Option V)} {H : Hp} {s : Shared} {a : Addr} {xs : List V} (I : Inv X pins σ H s) (h : SqA X.K H a xs) :
    ∃ (its : List Value) (o : Obj) (Hh : Heap → Prop), Vals xs its ∧ Begins (.ref a) o Hh ∧ Hh s.heap ∧ a < s.heap.objs.size ∧ ∀ (A : Around) (it : Addr), A.handled = none → a ≠ it → ∃ St : Nat → Heap → Prop, Draws X.prog X.w A it [it, a] its.length (fun i v => its[i]? = some v) St ∧ ∀ h', h'.get? it = some o → (∀ c u, s.heap.get? c = some u → h'.get? c = some u) → St 0 h' := by
  rcases h with h | h
  · obtain ⟨its, rv, pl, _⟩ := I.list h
    refine ⟨its, _, _, rv, begins_list a its.toArray, pl.isList, pl.lt, fun A it hh hne => ⟨fun i h => h.IsListIter it a i ∧ h.IsList a its.toArray, ?_, fun h' hit hk => ⟨⟨_, hit, rfl, rfl⟩, pl.isList.at fun o e => hk _ _ e⟩⟩⟩
    have := Draws.list (prog := X.prog) (w := X.w) hh it a hne its.toArray
    simpa using this
  · obtain ⟨its, rv, pl, _⟩ := I.tuple h
    have hl : Heap.IsTuple s.heap a its.toArray := pl
    refine ⟨its, _, _, rv, begins_tuple a its.toArray, hl, pl.lt, fun A it hh hne => ⟨fun i h => h.IsTupleIter it a i ∧ h.IsTuple a its.toArray, ?_, fun h' hit hk => ⟨⟨_, hit, rfl, rfl⟩, hl.at fun o e => hk _ _ e⟩⟩⟩
    have := Draws.tuple (prog := X.prog) (w := X.w) hh it a hne its.toArray
    simpa using this
open Classical in
noncomputable def layP (H : Hp) (p : Addr) (o : HO) (ts : List Addr) (xs ys : List V) : Hp := fun a => if a = p then some o else
  if h : ∃ q : V × V, ∃ j : Nat, ts[j]? = some a ∧ xs[j]? = some q.1 ∧ ys[j]? = some q.2 then some (.tup [h.choose.1, h.choose.2]) else H a
/-- what list(zip(..)) leaves: new pairs at ts, and the new list (or tuple) of them at p -/
structure Zipped (H H2 : Hp) (p : Addr) (o : List V → HO) (xs ys : List V) : Prop where
  new : H p = none
  same : Same H H2
  all : ∃ ts : List Addr, ts.length = min xs.length ys.length ∧ H2 p = some (o (ts.map V.ref)) ∧ ∀ (j : Nat) (T : Addr) (x y : V), ts[j]? = some T → xs[j]? = some x → ys[j]? = some y → H T = none ∧ H2 T = some (.tup [x, y])
def tZipC (K : PySem.W.Frag) (o : List V → HO) (ta : TA) : TE := fun σ H Q => ta σ H fun vs H1 => ∃ a b xs ys, vs = [.ref a, .ref b] ∧ SqA K H1 a xs ∧ SqA K H1 b ys ∧ min xs.length ys.length ≤ 100000 ∧ ∀ p H2, Zipped H1 H2 p o xs ys → Q (.ref p) H2
theorem refs_of : ∀ {vs : List Value}, (∀ (j : Nat) (v : Value), vs[j]? = some v → ∃ T : Addr, v = .ref T) → ∃ ts : List Addr, vs = ts.map Value.ref
  | [], _ => ⟨[], rfl⟩
  | v :: vs, h => by
    obtain ⟨T, rfl⟩ := h 0 v rfl
    obtain ⟨ts, rfl⟩ := refs_of (vs := vs) fun j u e => h (j + 1) u (by simpa using e)
    exact ⟨T :: ts, rfl⟩
theorem rel_inj {x y : V} {u : Value} (h : RelV x u) (h' : RelV y u) : x = y := by
  have := Vals.inj (.cons h .nil) (.cons h' .nil)
  injection this
theorem zip_inv {X : Cx} {pins : List (Addr × Obj)} {σ : List (Option V)} {H : Hp} {s : Shared} {h' : Heap} {tk : Nat} {xs ys : List V} {us vs : List Value} {N : Nat} {acc : Array Value} {p : Addr} {o : List V → HO} (I : Inv X pins σ H s) (rx : Vals xs us) (ry : Vals ys vs) (hk : ∀ b u, s.heap.get? b = some u → h'.get? b = some u) (hN : s.heap.objs.size ≤ N) (hp : s.heap.objs.size ≤ p)
    (hP : Pairs2 (fun i v => us[i]? = some v) (fun i v => vs[i]? = some v) N acc (min us.length vs.length) h') (hpn : ∀ (j : Nat) (v : Value), acc[j]? = some v → v ≠ Value.ref p) (hO : ∀ H', ∀ ts : List Addr, acc.toList = ts.map Value.ref → ObjOk X.prog X.w H' h' p (o (ts.map V.ref))) :
    ∃ H2, Inv X pins σ H2 { s with heap := h', toks := tk } ∧ Zipped H H2 p o xs ys := by
  obtain ⟨ts, hts⟩ := refs_of (vs := acc.toList) fun j v e => by
    obtain ⟨T, _, _, h1, _⟩ := hP.2 j v (by rw [← e]; simp)
    exact ⟨T, h1⟩
  have hlen : ts.length = min xs.length ys.length := by
    have := hP.1
    rw [rx.length, ry.length, ← this, ← Array.length_toList, hts, List.length_map]
  have at1 : ∀ (j : Nat) (T : Addr), ts[j]? = some T → acc[j]? = some (.ref T) := fun j T e => by
    have : acc.toList[j]? = some (.ref T) := by rw [hts, List.getElem?_map, e]; rfl
    simpa using this
  have pair : ∀ (j : Nat) (T : Addr) (x y : V), ts[j]? = some T → xs[j]? = some x → ys[j]? = some y → ∃ u v, IsTupOf2 h' T u v ∧ RelV x u ∧ RelV y v ∧ N < T := fun j T x y e e1 e2 => by
    obtain ⟨T', u, v, h1, h2, h3, h4, h5⟩ := hP.2 j _ (at1 j T e)
    cases h1
    obtain ⟨u', g1, g2⟩ := rx.get e1
    obtain ⟨v', g3, g4⟩ := ry.get e2
    rw [g1] at h2; cases h2
    rw [g3] at h3; cases h3
    exact ⟨_, _, h4, g2, g4, h5⟩
  have some_at : ∀ (j : Nat) (T : Addr), ts[j]? = some T → ∃ x y, xs[j]? = some x ∧ ys[j]? = some y := fun j T e => by
    obtain ⟨hj, _⟩ := List.getElem?_eq_some_iff.mp e
    exact ⟨_, _, List.getElem?_eq_getElem (by omega), List.getElem?_eq_getElem (by omega)⟩
  have nep : ∀ (j : Nat) (T : Addr), ts[j]? = some T → T ≠ p := fun j T e q => hpn j _ (at1 j T e) (by rw [q])
  have Hp' : layP H p (o (ts.map V.ref)) ts xs ys p = some (o (ts.map V.ref)) := by unfold layP; rw [if_pos rfl]
  have Ht : ∀ (j : Nat) (T : Addr) (x y : V), ts[j]? = some T → xs[j]? = some x → ys[j]? = some y → layP H p (o (ts.map V.ref)) ts xs ys T = some (.tup [x, y]) := fun j T x y e e1 e2 => by
    have hx : ∃ q : V × V, ∃ j : Nat, ts[j]? = some T ∧ xs[j]? = some q.1 ∧ ys[j]? = some q.2 := ⟨(x, y), j, e, e1, e2⟩
    unfold layP
    rw [if_neg (nep j T e), dif_pos hx]
    obtain ⟨j', f1, f2, f3⟩ := hx.choose_spec
    obtain ⟨u, v, a1, a2, a3, _⟩ := pair j T x y e e1 e2
    obtain ⟨u', v', c1, c2, c3, _⟩ := pair j' T _ _ f1 f2 f3
    have q : (some ({ cls := .type "tuple", data := .seq #[u, v] } : Obj)) = some { cls := .type "tuple", data := .seq #[u', v'] } := a1.symm.trans c1
    injection q with q
    injection q with _ _ q _
    injection q with q _
    have q2 : [u, v] = [u', v'] := congrArg Array.toList q
    injection q2 with q3 q4
    injection q4 with q4 _
    subst q3 q4
    rw [rel_inj c2 a2, rel_inj c3 a3]
  have Ho : ∀ a, a ≠ p → (∀ j : Nat, ts[j]? ≠ some a) → layP H p (o (ts.map V.ref)) ts xs ys a = H a := fun a h1 h2 => by
    unfold layP
    rw [if_neg h1, dif_neg (fun ⟨_, j, e, _⟩ => h2 j e)]
  have big : ∀ (j : Nat) (T : Addr), ts[j]? = some T → s.heap.objs.size ≤ T := fun j T e => by
    obtain ⟨x, y, e1, e2⟩ := some_at j T e
    obtain ⟨_, _, _, _, _, h5⟩ := pair j T x y e e1 e2
    exact Nat.le_trans hN (Nat.le_of_lt h5)
  have sm : Same H (layP H p (o (ts.map V.ref)) ts xs ys) := fun a u e => by
    have hlt : ∀ b, s.heap.objs.size ≤ b → a ≠ b := fun b hb z => by
      have := I.hok.fresh hb
      rw [z, this] at e; cases e
    rw [Ho a (hlt p hp) (fun j q => hlt a (big j a q) rfl)]
    exact e
  refine ⟨layP H p (o (ts.map V.ref)) ts xs ys, inv_lays I hk sm fun a u e => ?_, I.hok.fresh hp, sm, ts, hlen, Hp', fun j T x y e e1 e2 => ⟨I.hok.fresh (big j T e), Ht j T x y e e1 e2⟩⟩
  by_cases h1 : a = p
  · subst h1
    rw [Hp'] at e; cases e
    exact .inr ⟨hp, hO _ ts hts⟩
  · by_cases h2 : ∃ j : Nat, ts[j]? = some a
    · obtain ⟨j, ej⟩ := h2
      obtain ⟨x, y, e1, e2⟩ := some_at j a ej
      rw [Ht j a x y ej e1 e2] at e; cases e
      obtain ⟨u, v, q1, q2, q3, _⟩ := pair j a x y ej e1 e2
      exact .inr ⟨big j a ej, by show ([x, y] : List V).length ≤ sizeLine; rw [sizeLine_eq]; simp, [u, v], .cons q2 (.cons q3 .nil), ⟨_, q1, rfl, _, rfl⟩⟩
    · rw [Ho a h1 (fun j q => h2 ⟨j, q⟩)] at e
      exact .inl e
section
variable {X : Cx} {e e2 : Expr} {ta : TA} {p p2 pos pos2 : Pos}
theorem pe_listZip (hc : X.calm = true) (hg : Gl X "list") (hm : X.mg "list" = none) (hg2 : Gl X "zip") (hm2 : X.mg "zip" = none) (ha : PA X [e, e2] ta)
    (hs : starEach [e, e2] X.env = (false, eval e X.env) :: starEach [e2] X.env := by rfl) (hpl : (backTo pos2 (starEach [e2] X.env)).any (·.1) = false := by rfl)
    (na : starEach [.Call (.Name "zip" p2) [e, e2] [] pos2] X.env = (false, eval (.Call (.Name "zip" p2) [e, e2] [] pos2) X.env) :: starEach [] X.env := by rfl) :
    PE X (.Call (.Name "list" p) [.Call (.Name "zip" p2) [e, e2] [] pos2] [] pos) (tZipC X.K .lst ta) := by
  refine ⟨fun pins s σ H Q I h => ?_⟩
  refine Call_ (ld_blt I hg hm boot_list (PyProof.Rows.callWith_type1 (args_cons (Call_ (ld_blt I hg2 hm2 PyProof.Rows.boot_zip (PyProof.Rows.callWith_type1 (thn (ha.run pos2 pins s σ H _ I h) fun us s1 ⟨vs, H1, I1, r1, q1⟩ => ?_) hs hpl))) na) na))
  obtain ⟨a, b, xs, ys, ex, sx, sy, hlen, q⟩ := q1
  subst ex
  cases r1 with
  | cons r rr =>
    cases rr with
    | cons r' rr =>
      cases rr
      cases r
      cases r'
      have hh := I1.ok.hd hc
      obtain ⟨us, o1, h1, rx, B1, hb1, l1, dr1⟩ := seq_draws I1 sx
      obtain ⟨vs, o2, h2, ry, B2, hb2, l2, dr2⟩ := seq_draws I1 sy
      refine zip_begins2 B1 B2 hb1 hb2 fun h' hz hTI hTO g1 g2 hsz hk => args_nil ?_
      obtain ⟨St1, D1, st1⟩ := dr1 X.A.in1.in1.in1 s1.heap.objs.size hh (Nat.ne_of_lt l1)
      obtain ⟨St2, D2, st2⟩ := dr2 X.A.in1.in1.in1 (s1.heap.objs.size + 1) hh (Nat.ne_of_lt (Nat.lt_succ_of_lt l2))
      have S := zip_sep2 (N := s1.heap.objs.size) (fp1 := [a]) (fp2 := [b]) (by intro c hc; rw [List.mem_singleton] at hc; rw [hc]; exact l1) (by intro c hc; rw [List.mem_singleton] at hc; rw [hc]; exact l2)
      refine call_list_zip (A := X.A) (s := { s1 with heap := h' }) S D1 D2 rfl (by rw [← rx.length, ← ry.length]; exact hlen) ?_ ?_ hz hTI hTO (st1 _ g1 hk) (st2 _ g2 hk) fun h'' tk acc c' hk' hl hp => ?_
      · intro c hc
        show c < h'.objs.size
        rw [hsz]
        simp only [List.mem_cons, List.not_mem_nil, or_false] at hc
        rcases hc with rfl | rfl
        · exact Nat.lt_add_of_pos_right (by decide)
        · exact Nat.lt_of_lt_of_le l1 (Nat.le_add_right _ _)
      · intro c hc
        show c < h'.objs.size
        rw [hsz]
        simp only [List.mem_cons, List.not_mem_nil, or_false] at hc
        rcases hc with rfl | rfl
        · exact Nat.add_lt_add_left (by decide) _
        · exact Nat.lt_of_lt_of_le l2 (Nat.le_add_right _ _)
      · have hle : s1.heap.objs.size ≤ h'.objs.size := by rw [hsz]; exact Nat.le_add_right _ _
        have kk : ∀ c u, s1.heap.get? c = some u → h''.get? c = some u := fun c u q => by
          have := Heap.lt_size q
          exact hk' c u (fun z => by rw [z] at this; exact absurd this (Nat.not_lt.mpr (Nat.le_add_right _ _))) (fun z => by rw [z] at this; exact absurd this (Nat.not_lt.mpr (Nat.le_add_right _ _))) (fun z => by rw [z] at this; exact Nat.lt_irrefl _ this) (fun z => by rw [z] at this; exact absurd this (Nat.not_lt.mpr (Nat.le_add_right _ _))) (hk c u q)
        obtain ⟨H2, I2, zz⟩ := zip_inv (o := .lst) (p := h'.objs.size) (tk := tk) I1 rx ry kk hle hle hp (fun j v ev => by
          obtain ⟨T, _, _, rfl, _, _, _, hT⟩ := hp.2 j v ev
          intro z; cases z
          exact Nat.lt_irrefl _ hT) (fun H' ts ht => ⟨by rw [List.length_map]; have := hp.1; rw [← Array.length_toList, ht, List.length_map] at this; rw [this, ← rx.length, ← ry.length, sizeLine_eq]; omega, acc.toList, c', by rw [ht]; exact vals_refs ts, by rw [Array.toArray_toList]; exact hl⟩)
        exact ⟨.ref h'.objs.size, H2, I2, rfl, q _ _ zz⟩
theorem pe_tupZip (hc : X.calm = true) (hg : Gl X "tuple") (hm : X.mg "tuple" = none) (hg2 : Gl X "zip") (hm2 : X.mg "zip" = none) (ha : PA X [e, e2] ta)
    (hs : starEach [e, e2] X.env = (false, eval e X.env) :: starEach [e2] X.env := by rfl) (hpl : (backTo pos2 (starEach [e2] X.env)).any (·.1) = false := by rfl)
    (na : starEach [.Call (.Name "zip" p2) [e, e2] [] pos2] X.env = (false, eval (.Call (.Name "zip" p2) [e, e2] [] pos2) X.env) :: starEach [] X.env := by rfl) :
    PE X (.Call (.Name "tuple" p) [.Call (.Name "zip" p2) [e, e2] [] pos2] [] pos) (tZipC X.K .tup ta) := by
  refine ⟨fun pins s σ H Q I h => ?_⟩
  refine Call_ (ld_blt I hg hm boot_tuple (PyProof.Rows.callWith_type1 (args_cons (Call_ (ld_blt I hg2 hm2 PyProof.Rows.boot_zip (PyProof.Rows.callWith_type1 (thn (ha.run pos2 pins s σ H _ I h) fun us s1 ⟨vs, H1, I1, r1, q1⟩ => ?_) hs hpl))) na) na))
  obtain ⟨a, b, xs, ys, ex, sx, sy, hlen, q⟩ := q1
  subst ex
  cases r1 with
  | cons r rr =>
    cases rr with
    | cons r' rr =>
      cases rr
      cases r
      cases r'
      have hh := I1.ok.hd hc
      obtain ⟨us, o1, h1, rx, B1, hb1, l1, dr1⟩ := seq_draws I1 sx
      obtain ⟨vs, o2, h2, ry, B2, hb2, l2, dr2⟩ := seq_draws I1 sy
      refine zip_begins2 B1 B2 hb1 hb2 fun h' hz hTI hTO g1 g2 hsz hk => args_nil ?_
      obtain ⟨St1, D1, st1⟩ := dr1 X.A.in1.in1.in1.in1 s1.heap.objs.size hh (Nat.ne_of_lt l1)
      obtain ⟨St2, D2, st2⟩ := dr2 X.A.in1.in1.in1.in1 (s1.heap.objs.size + 1) hh (Nat.ne_of_lt (Nat.lt_succ_of_lt l2))
      have S := zip_sep2 (N := s1.heap.objs.size) (fp1 := [a]) (fp2 := [b]) (by intro c hc; rw [List.mem_singleton] at hc; rw [hc]; exact l1) (by intro c hc; rw [List.mem_singleton] at hc; rw [hc]; exact l2)
      refine call_tuple_zip (A := X.A) (s := { s1 with heap := h' }) S D1 D2 rfl (by rw [← rx.length, ← ry.length]; exact hlen) ?_ ?_ hz hTI hTO (st1 _ g1 hk) (st2 _ g2 hk) fun h'' tk acc hk' hl hp => ?_
      · intro c hc
        show c < h'.objs.size
        rw [hsz]
        simp only [List.mem_cons, List.not_mem_nil, or_false] at hc
        rcases hc with rfl | rfl
        · exact Nat.lt_add_of_pos_right (by decide)
        · exact Nat.lt_of_lt_of_le l1 (Nat.le_add_right _ _)
      · intro c hc
        show c < h'.objs.size
        rw [hsz]
        simp only [List.mem_cons, List.not_mem_nil, or_false] at hc
        rcases hc with rfl | rfl
        · exact Nat.add_lt_add_left (by decide) _
        · exact Nat.lt_of_lt_of_le l2 (Nat.le_add_right _ _)
      · have hle : s1.heap.objs.size ≤ h'.objs.size := by rw [hsz]; exact Nat.le_add_right _ _
        have kk : ∀ c u, s1.heap.get? c = some u → (h''.push { cls := .type "tuple", data := .seq acc }).get? c = some u := fun c u q => by
          have := Heap.lt_size q
          exact Heap.get?_push_of_some _ (hk' c u (fun z => by rw [z] at this; exact absurd this (Nat.not_lt.mpr (Nat.le_add_right _ _))) (fun z => by rw [z] at this; exact absurd this (Nat.not_lt.mpr (Nat.le_add_right _ _))) (fun z => by rw [z] at this; exact Nat.lt_irrefl _ this) (fun z => by rw [z] at this; exact absurd this (Nat.not_lt.mpr (Nat.le_add_right _ _))) (hk c u q))
        have hp' : Pairs2 (fun i v => us[i]? = some v) (fun i v => vs[i]? = some v) h'.objs.size acc (min us.length vs.length) (h''.push { cls := .type "tuple", data := .seq acc }) := ⟨hp.1, fun j v ev => by
          obtain ⟨T, x, y, q1, q2, q3, q4, q5⟩ := hp.2 j v ev
          exact ⟨T, x, y, q1, q2, q3, Heap.get?_push_of_some _ q4, q5⟩⟩
        obtain ⟨H2, I2, zz⟩ := zip_inv (o := .tup) (p := h''.objs.size) (tk := tk) I1 rx ry kk hle (Nat.le_trans hle hl) hp' (fun j v ev => by
          obtain ⟨T, _, _, rfl, _, _, q4, hT⟩ := hp.2 j v ev
          intro z; cases z
          exact Nat.lt_irrefl _ (Heap.lt_size q4)) (fun H' ts ht => ⟨by rw [List.length_map]; have := hp.1; rw [← Array.length_toList, ht, List.length_map] at this; rw [this, ← rx.length, ← ry.length, sizeLine_eq]; omega, acc.toList, by rw [ht]; exact vals_refs ts, by rw [Array.toArray_toList]; exact IsTup.new _ _⟩)
        exact ⟨.ref h''.objs.size, H2, I2, rfl, q _ _ zz⟩
end
/-! the plain side -/
def eZp (k : List PyData → PyData) (a : SA) : SE := fun ρ M => (a ρ M).bind fun x => match x.1 with
  | [.dat d, .dat e] => (seqD d).bind fun xs => (seqD e).bind fun ys => if min xs.length ys.length ≤ 100000 then some (.dat (k (zipD xs ys)), x.2) else none
  | _ => none
section
variable {K : PySem.W.Frag}
theorem seq_of {G : Hp} {v : V} {d : PyData} {ds : List PyData} (h : Dq K G v d) (e : seqD d = some ds) : ∃ a xs, v = .ref a ∧ SqA K G a xs ∧ DqAll K G xs ds := by
  cases h with
  | lst hs ha => cases e; exact ⟨_, _, rfl, .inl hs, ha⟩
  | tup hs ha => cases e; exact ⟨_, _, rfl, .inr hs, ha⟩
  | _ => cases e
theorem sqA_mono {G H : Hp} {a : Addr} {xs : List V} (e : Same G H) (h : SqA K G a xs) : SqA K H a xs := by
  rcases h with h | h
  · exact .inl (e.seq h)
  · exact .inr (same_sqT e h)
open Classical in
/-- several new objects that nobody changes -/
theorem Rel.als {F : Hp} {π : List Addr} {G H H2 : Hp} {M : Mem} (r : Rel K F π G H M) (e : Same H H2) : ∃ G2, Same G G2 ∧ (∀ a o, H a = none → H2 a = some o → G2 a = some o) ∧ Rel K F π G2 H2 M := by
  refine ⟨fun a => if H a = none then H2 a else G a, fun a o q => ?_, fun a o q1 q2 => by simp only [q1, if_true, q2], ?_⟩
  · have := r.ex a o q
    simp only [this, reduceCtorEq, if_false, q]
  have sg : Same G (fun a => if H a = none then H2 a else G a) := fun a o q => by
    have := r.ex a o q
    simp only [this, reduceCtorEq, if_false, q]
  refine ⟨fun a o q => ?_, fun a o q => ?_, r.len, fun i xs q => ?_, r.inj, r.wf⟩
  · by_cases h : H a = none
    · simp only [h, if_true] at q; exact q
    · simp only [h, if_false] at q; exact e _ _ (r.ex _ _ q)
  · obtain ⟨h1, h2⟩ := r.fr a o q
    refine ⟨e _ _ h1, ?_⟩
    simp only [h1, reduceCtorEq, if_false, h2]
  · obtain ⟨a, vs, h1, h2, h3, h4, h5⟩ := r.mem i xs q
    refine ⟨a, vs, h1, h2, ?_, e _ _ h4, h5.mono0 sg⟩
    simp only [h4, reduceCtorEq, if_false, h3]
theorem zip_all {G : Hp} {xs ys : List V} {ds es : List PyData} {ts : List Addr} (hx : DqAll K G xs ds) (hy : DqAll K G ys es) (hl : ts.length = min xs.length ys.length) (h : ∀ (j : Nat) (T : Addr) (x y : V), ts[j]? = some T → xs[j]? = some x → ys[j]? = some y → G T = some (.tup [x, y])) : DqAll K G (ts.map V.ref) (zipD ds es) := by
  induction ts generalizing xs ys ds es with
  | nil =>
    cases hx with
    | nil => exact .nil
    | cons h1 h2 =>
      cases hy with
      | nil => exact .nil
      | cons _ _ => simp at hl
  | cons T ts ih =>
    cases hx with
    | nil => simp at hl
    | cons h1 h2 =>
      cases hy with
      | nil => simp at hl
      | cons h3 h4 => exact .cons (.tup (SqT.of (h 0 T _ _ rfl rfl rfl)) (.cons h1 (.cons h3 .nil))) (ih h2 h4 (by simp only [List.length_cons] at hl; omega) fun j T x y e1 e2 e3 => h (j + 1) T x y (by simpa using e1) (by simpa using e2) (by simpa using e3))
theorem ev_zp {o : List V → HO} {k : List PyData → PyData} {t : TA} {as : SA} (ho : ∀ (G : Hp) p vs ds, G p = some (o vs) → DqAll K G vs ds → Dq K G (.ref p) (k ds)) (hs : EvA K t as) : EvS K (tZipC K o t) (eZp k as) := by
  intro ρ M r M' h F π G H σ rel sl Q q
  unfold eZp at h
  obtain ⟨⟨x, M1⟩, h1, h⟩ := Option.bind_eq_some_iff.mp h
  dsimp only at h
  split at h
  · rename_i d e'
    obtain ⟨ds, f1, h⟩ := Option.bind_eq_some_iff.mp h
    obtain ⟨es, f2, h⟩ := Option.bind_eq_some_iff.mp h
    split at h
    · rename_i hz
      cases h
      refine hs ρ M _ _ h1 F π G H σ rel sl _ fun π' G' H' v g rel' sv => ?_
      cases sv with
      | cons s1 sv =>
        cases sv with
        | cons s2 sv =>
          cases sv
          cases s1 with
          | dat d1 =>
            cases s2 with
            | dat d2 =>
              obtain ⟨a, xs, rfl, sx, ax⟩ := seq_of d1 f1
              obtain ⟨b, ys, rfl, sy, ay⟩ := seq_of d2 f2
              refine ⟨a, b, xs, ys, rfl, sqA_mono rel'.ex sx, sqA_mono rel'.ex sy, by rw [ax.length, ay.length]; exact hz, fun p H2 zz => ?_⟩
              obtain ⟨G2, g1, g2, rel2⟩ := rel'.als zz.same
              obtain ⟨ts, z1, z2, z3⟩ := zz.all
              have fr : ∀ (j : Nat) (T : Addr) (x y : V), ts[j]? = some T → xs[j]? = some x → ys[j]? = some y → G2 T = some (.tup [x, y]) := fun j T x y e1 e2 e3 => by
                obtain ⟨n1, n2⟩ := z3 j T x y e1 e2 e3
                exact g2 _ _ n1 n2
              refine q π' G2 H2 (.ref p) (g.trans (.of g1)) rel2 (.dat (ho G2 p _ _ (g2 _ _ zz.new z2) (zip_all (ax.mono g1) (ay.mono g1) z1 fr)))
    · cases h
  · cases h
theorem ev_zpL {t : TA} {as : SA} (hs : EvA K t as) : EvS K (tZipC K .lst t) (eZp .list as) := ev_zp (fun G p vs ds h ha => .lst (SqL.of h) ha) hs
theorem ev_zpT {t : TA} {as : SA} (hs : EvA K t as) : EvS K (tZipC K .tup t) (eZp .tuple as) := ev_zp (fun G p vs ds h ha => .tup (SqT.of h) ha) hs
end
end Sm

/-! SmY: min, max of two; sorted lists of pairs. -/
namespace Sm
open PySem PySem.Spec PyProof.Rows L2
section
variable {K : PySem.W.Frag}
def fMin2 : Mem → List SV → Option SV := fun _ xs => match xs with
  | [.dat (.int i), .dat (.int j)] => some (.dat (.int (if j < i then j else i)))
  | _ => none
def fMax2 : Mem → List SV → Option SV := fun _ xs => match xs with
  | [.dat (.int i), .dat (.int j)] => some (.dat (.int (if j > i then j else i)))
  | _ => none
theorem cs_min2 : CaS K (fun xs H Q => ∃ i j, xs = [.int i, .int j] ∧ Q (.int (if j < i then j else i)) H) fMin2 := by
  intro M x z e F π G H v R s Q q
  unfold fMin2 at e
  split at e
  · cases e
    cases s with
    | cons s1 s =>
      cases s with
      | cons s2 s =>
        cases s; cases s1 with
        | dat d1 => cases s2 with
          | dat d2 => cases d1; cases d2; exact ⟨_, _, rfl, q G H _ .same (.dat (.int _))⟩
  · cases e
theorem cs_max2 : CaS K (fun xs H Q => ∃ i j, xs = [.int i, .int j] ∧ Q (.int (if j > i then j else i)) H) fMax2 := by
  intro M x z e F π G H v R s Q q
  unfold fMax2 at e
  split at e
  · cases e
    cases s with
    | cons s1 s =>
      cases s with
      | cons s2 s =>
        cases s; cases s1 with
        | dat d1 => cases s2 with
          | dat d2 => cases d1; cases d2; exact ⟨_, _, rfl, q G H _ .same (.dat (.int _))⟩
  · cases e
/-! pairs by their order -/
abbrev Lx (p q : Int × Int) : Prop := SrtO.lexB q p = false
def insP (x : Int × Int) : List (Int × Int) → List (Int × Int)
  | [] => [x]
  | y :: r => if SrtO.lexB y x = false then x :: y :: r else y :: insP x r
def srtP : List (Int × Int) → List (Int × Int)
  | [] => []
  | x :: r => insP x (srtP r)
theorem lx_trans {a b c : Int × Int} (h1 : Lx a b) (h2 : Lx b c) : Lx a c := by
  have a1 := SrtO.lexB_no.mp h1
  have a2 := SrtO.lexB_no.mp h2
  exact SrtO.lexB_no.mpr (by omega)
theorem lx_eq {a b : Int × Int} (h1 : Lx a b) (h2 : Lx b a) : a = b := by
  have a1 := SrtO.lexB_no.mp h1
  have a2 := SrtO.lexB_no.mp h2
  obtain ⟨a, a'⟩ := a
  obtain ⟨b, b'⟩ := b
  simp only at a1 a2
  have : a = b ∧ a' = b' := by omega
  rw [this.1, this.2]
theorem insP_perm (x : Int × Int) : ∀ l, (insP x l).Perm (x :: l)
  | [] => List.Perm.refl _
  | y :: r => by
    unfold insP
    split
    · exact List.Perm.refl _
    · exact ((insP_perm x r).cons y).trans (List.Perm.swap x y r)
theorem srtP_perm : ∀ l, (srtP l).Perm l
  | [] => List.Perm.refl _
  | x :: r => (insP_perm x (srtP r)).trans ((srtP_perm r).cons x)
theorem insP_sorted (x : Int × Int) : ∀ l, l.Pairwise Lx → (insP x l).Pairwise Lx
  | [], _ => List.pairwise_singleton _ _
  | y :: r, h => by
    obtain ⟨h1, h2⟩ := List.pairwise_cons.mp h
    unfold insP
    split
    · rename_i hx
      refine List.pairwise_cons.mpr ⟨fun z hz => ?_, h⟩
      rcases List.mem_cons.mp hz with e | e
      · rw [e]; exact hx
      · exact lx_trans hx (h1 z e)
    · rename_i hx
      refine List.pairwise_cons.mpr ⟨fun z hz => ?_, insP_sorted x r h2⟩
      rcases List.mem_cons.mp ((insP_perm x r).mem_iff.mp hz) with e | e
      · rw [e]
        have hx' : SrtO.lexB y x = true := by cases q : SrtO.lexB y x <;> simp_all
        have := SrtO.lexB_iff.mp hx'
        exact SrtO.lexB_no.mpr (by omega)
      · exact h1 z e
theorem srtP_sorted : ∀ l, (srtP l).Pairwise Lx
  | [] => List.Pairwise.nil
  | x :: r => insP_sorted x _ (srtP_sorted r)
theorem sortedP_eq : ∀ {a b : List (Int × Int)}, a.Perm b → a.Pairwise Lx → b.Pairwise Lx → a = b
  | [], _, p, _, _ => (List.Perm.nil_eq p)
  | x :: a, [], p, _, _ => by have := p.length_eq; simp at this
  | x :: a, y :: b, p, ha, hb => by
    obtain ⟨a1, a2⟩ := List.pairwise_cons.mp ha
    obtain ⟨b1, b2⟩ := List.pairwise_cons.mp hb
    have e : x = y := by
      rcases List.mem_cons.mp (p.mem_iff.mp List.mem_cons_self) with e | e
      · exact e
      · rcases List.mem_cons.mp (p.mem_iff.mpr List.mem_cons_self) with f | f
        · exact f.symm
        · exact lx_eq (a1 y f) (b1 x e)
    subst e
    rw [sortedP_eq (List.Perm.cons_inv p) a2 b2]
/-! sorted(..) of a list of pairs -/
def rSrtQ (K : PySem.W.Frag) : V → Hp → VK → Prop := fun x H Q => ∃ (a : Addr) (xs : List V) (ps : List (Int × Int)), x = .ref a ∧ SqL K H a xs ∧ xs.length = ps.length ∧ (∀ z ∈ xs.zip ps, ∃ t, z.1 = V.ref t ∧ SqT K H t [.int z.2.1, .int z.2.2]) ∧
  ∀ (zs : List (V × (Int × Int))) (p : Addr), zs.Perm (xs.zip ps) → (zs.map Prod.snd).Pairwise Lx → H p = none → Q (.ref p) (upd H p (.lst (zs.map Prod.fst)))
open Classical in
theorem call_sortQ {X : Cx} : CallR X (.builtin "sorted") (fun xs H Q => ∃ x, xs = [x] ∧ rSrtQ X.K x H Q) := by
  intro pins s σ H vs us Q I r h
  obtain ⟨x, rfl, a, xs, ps, rfl, hs, hl, hx, q⟩ := h
  obtain ⟨its, rv, pl, hz⟩ := I.list hs
  obtain ⟨u, rfl, ru⟩ := vals1 r
  obtain rfl : u = Value.ref a := ru
  obtain ⟨k, hk⟩ : ∃ k : V → Int × Int, ∀ z ∈ xs.zip ps, k z.1 = z.2 := by
    refine ⟨fun v => if h : ∃ c : Int × Int, (v, c) ∈ xs.zip ps then h.choose else (0, 0), fun z hz' => ?_⟩
    have hc : ∃ c : Int × Int, (z.1, c) ∈ xs.zip ps := ⟨z.2, hz'⟩
    show (if h : ∃ c : Int × Int, (z.1, c) ∈ xs.zip ps then h.choose else (0, 0)) = z.2
    rw [dif_pos hc]
    obtain ⟨t, e1, f1⟩ := hx _ hz'
    obtain ⟨t', e2, f2⟩ := hx _ hc.choose_spec
    have e : V.ref t = V.ref t' := e1.symm.trans e2
    cases e
    have := I.tuple_inj f2 f1
    simp only [List.cons.injEq, V.int.injEq, and_true] at this
    exact Prod.ext this.1 this.2
  have hzip : xs.zip ps = xs.map fun v => (v, k v) := by
    clear hx q rv hs hz
    induction xs generalizing ps with
    | nil => rfl
    | cons v xs ih =>
      cases ps with
      | nil => simp at hl
      | cons c ps =>
        have h1 : k v = c := hk (v, c) (by simp)
        rw [List.zip_cons_cons, List.map_cons, h1, ih ps (by simpa using hl) fun z hz => hk z (by rw [List.zip_cons_cons]; exact List.mem_cons_of_mem _ hz)]
  have ref_of : ∀ v ∈ xs, ∃ t, v = V.ref t ∧ SqT X.K H t [.int (k v).1, .int (k v).2] := fun v hv => by
    have : (v, k v) ∈ xs.zip ps := by rw [hzip]; exact List.mem_map.mpr ⟨v, hv, rfl⟩
    exact hx _ this
  obtain ⟨e1, e2⟩ := refs_back rv fun v m => let ⟨t, e, _⟩ := ref_of v m; ⟨t, e⟩
  refine SrtO.sorted_pairsO (k := fun u => k (backV u)) pl.isList (by rw [← rv.length]; exact hz) (fun v hv => ?_) fun h' d out h1 h2 kp hd hn => ?_
  · obtain ⟨t, rfl⟩ := e2 v hv
    obtain ⟨t', e, ht⟩ := ref_of (V.ref t) (by rw [e1]; exact List.mem_map.mpr ⟨_, hv, rfl⟩)
    cases e
    obtain ⟨its2, r2, ⟨o, ho, hc, n, hd⟩, _⟩ := I.tuple ht
    obtain ⟨u1, u2, rfl, ⟨t1, rfl⟩, ⟨t2, rfl⟩⟩ := vals2 r2
    exact ⟨t, o, t1, t2, n, rfl, ho, hc, hd⟩
  · obtain ⟨n, hn⟩ := hn
    have h3 : ∀ u ∈ out, ∃ a, u = Value.ref a := fun u hu => e2 u (h2.perm.mem_iff.mp hu)
    have hpm : (out.map backV).Perm xs := by rw [e1]; exact h2.perm.map backV
    have hq := q ((out.map backV).map fun v => (v, k v)) d (by rw [hzip]; exact hpm.map _) (by
      rw [List.map_map, List.pairwise_map]
      exact SrtO.srtd_map h1) (I.hok.fresh hd)
    have e3 : ((out.map backV).map fun v => (v, k v)).map Prod.fst = out.map backV := by rw [List.map_map]; exact List.map_id _
    rw [e3] at hq
    exact ⟨.ref d, upd H d (.lst (out.map backV)), I.laid (t' := s.toks) kp hd ⟨by rw [hpm.length_eq]; exact hz, out, n, vals_back h3, hn⟩, rfl, hq⟩
def pairsOf : List PyData → Option (List (Int × Int))
  | [] => some []
  | .tuple [.int i, .int j] :: r => (pairsOf r).bind fun ps => some ((i, j) :: ps)
  | _ => none
def fSortP : Mem → SV → Option SV := fun _ x => match x with
  | .dat (.list ds) => (pairsOf ds).bind fun ps => some (.dat (.list ((srtP ps).map fun q => PyData.tuple [.int q.1, .int q.2])))
  | _ => none
theorem pairs_dq {G : Hp} : ∀ {ds : List PyData} {ps : List (Int × Int)} {xs : List V}, pairsOf ds = some ps → DqAll K G xs ds → xs.length = ps.length ∧ ∀ z ∈ xs.zip ps, ∃ t, z.1 = V.ref t ∧ SqT K G t [.int z.2.1, .int z.2.2]
  | [], ps, xs, h, d => by
    cases d; cases h
    exact ⟨rfl, by simp⟩
  | d :: ds, ps, xs, h, dq => by
    unfold pairsOf at h
    split at h
    · rename_i e; cases e
    · rename_i i j r e
      cases e
      obtain ⟨qs, h1, h2⟩ := Option.bind_eq_some_iff.mp h
      cases h2
      cases dq with
      | cons d1 d2 =>
        obtain ⟨l1, l2⟩ := pairs_dq h1 d2
        refine ⟨by simp [l1], fun z hz => ?_⟩
        rw [List.zip_cons_cons] at hz
        rcases List.mem_cons.mp hz with e | e
        · subst e
          cases d1 with
          | tup hs ha =>
            cases ha with
            | cons b1 ha =>
              cases ha with
              | cons b2 ha =>
                cases ha; cases b1; cases b2
                exact ⟨_, rfl, hs⟩
        · exact l2 z e
    · cases h
theorem us_sortP : UnS K (rSrtQ K) fSortP := by
  intro M x z e F π G H v R s Q q
  unfold fSortP at e
  split at e
  · rename_i ds
    obtain ⟨ps, h1, h2⟩ := Option.bind_eq_some_iff.mp e
    cases h2
    cases s with
    | dat d =>
      cases d with
      | lst hs ha =>
        rename_i a xs
        obtain ⟨l1, l2⟩ := pairs_dq h1 ha
        refine ⟨a, xs, ps, rfl, R.ex.seq hs, l1, fun z hz => ?_, fun zs p hp hso hn => ?_⟩
        · obtain ⟨t, e1, e2⟩ := l2 z hz
          exact ⟨t, e1, same_sqT R.ex e2⟩
        · have sg : Same G (upd G p (.lst (zs.map Prod.fst))) := same_upd (none_of_same R.ex hn)
          have hps : (zs.map Prod.snd) = srtP ps := by
            refine sortedP_eq ?_ hso (srtP_sorted ps)
            have : (zs.map Prod.snd).Perm ps := by
              have := hp.map Prod.snd
              rwa [List.map_snd_zip (Nat.le_of_eq l1.symm)] at this
            exact this.trans (srtP_perm ps).symm
          refine q (upd G p (.lst (zs.map Prod.fst))) _ _ (.new hn) (.dat (.lst (SqL.of upd_same) ?_))
          rw [← hps]
          have all : ∀ z ∈ zs, ∃ t, z.1 = V.ref t ∧ SqT K G t [.int z.2.1, .int z.2.2] := fun z hz => l2 z (hp.mem_iff.mp hz)
          clear hp hso hps hn
          have : ∀ (W : Hp), Same G W → ∀ zs : List (V × (Int × Int)), (∀ z ∈ zs, ∃ t, z.1 = V.ref t ∧ SqT K G t [.int z.2.1, .int z.2.2]) → DqAll K W (zs.map Prod.fst) ((zs.map Prod.snd).map fun q => PyData.tuple [.int q.1, .int q.2]) := by
            intro W sw zs
            induction zs with
            | nil => intro _; exact .nil
            | cons z zs ih =>
              intro h
              obtain ⟨t, e1, e2⟩ := h z List.mem_cons_self
              rw [List.map_cons, List.map_cons, List.map_cons, e1]
              exact .cons (.tup (same_sqT sw e2) (.cons (.int _) (.cons (.int _) .nil))) (ih fun y hy => h y (List.mem_cons_of_mem _ hy))
          exact this _ sg zs all
  · cases e
end
end Sm

/-! SmX: lists that change: pop(i), insert(i, x), extend(list); is not None. -/
namespace Sm
open PySem PySem.Spec PyProof.Rows L2
section
variable {K : PySem.W.Frag}
theorem Svs.eraseIdx {π : List Addr} {G : Hp} : ∀ {s : List SV} {v : List V} (i : Nat), Svs K π G s v → Svs K π G (s.eraseIdx i) (v.eraseIdx i)
  | _, _, _, .nil => .nil
  | _, _, 0, .cons _ r => r
  | _, _, i + 1, .cons q r => .cons q (r.eraseIdx i)
theorem Svs.take {π : List Addr} {G : Hp} : ∀ {s : List SV} {v : List V} (i : Nat), Svs K π G s v → Svs K π G (s.take i) (v.take i)
  | _, _, 0, _ => .nil
  | _, _, _ + 1, .nil => .nil
  | _, _, i + 1, .cons q r => .cons q (r.take i)
theorem Svs.drop {π : List Addr} {G : Hp} : ∀ {s : List SV} {v : List V} (i : Nat), Svs K π G s v → Svs K π G (s.drop i) (v.drop i)
  | _, _, 0, r => r
  | _, _, _ + 1, .nil => .nil
  | _, _, i + 1, .cons _ r => r.drop i
def ePop (o i : SE) : SE := fun ρ M => (o ρ M).bind fun x => (i ρ x.2).bind fun y => match x.1 with
  | .cel j => match x.2[j]?, y.2[j]?, y.1 with
    | some (some _), some (some xs), .dat (.int k) => if -(2 ^ 63) ≤ k ∧ k < 2 ^ 63 then (ixN xs.length k).bind fun m => (xs[m]?).bind fun z => some (z, y.2.set j (some (xs.eraseIdx m))) else none
    | _, _, _ => none
  | _ => none
theorem ev_pop {to ti : TE} {o i : SE} (ho : EvS K to o) (hi : EvS K ti i) : EvS K (tBM K "list" rPopAt to (tCons ti tNil)) (ePop o i) := by
  intro ρ M r M' h F π G H σ R S Q q
  unfold ePop at h
  obtain ⟨⟨x, M1⟩, h1, h⟩ := Option.bind_eq_some_iff.mp h
  obtain ⟨⟨y, M2⟩, h2, h⟩ := Option.bind_eq_some_iff.mp h
  cases x with
  | dat _ => cases h
  | cel j =>
    dsimp only at h
    split at h
    · rename_i xs0 xs k hx0 hx
      split at h
      · rename_i hk
        obtain ⟨m, hm, h⟩ := Option.bind_eq_some_iff.mp h
        obtain ⟨z, hz, h⟩ := Option.bind_eq_some_iff.mp h
        cases h
        refine ho ρ M _ M1 h1 F π G H σ R S _ fun π1 G1 H1 v1 g1 R1 s1 => ?_
        cases s1 with
        | @cel _ a ea =>
          refine ⟨?_, ?_⟩
          · obtain ⟨b, ws, p1, p2, p3, p4, p5⟩ := R1.mem j xs0 hx0
            rw [ea] at p1; cases p1
            exact .inl ⟨rfl, _, SqL.of p4⟩
          · refine hi ρ M1 _ M2 h2 F π1 G1 H1 σ R1 (S.gr g1) _ fun π2 G2 H2 v2 g2 R2 s2 => ?_
            obtain ⟨gs, more, rfl⟩ := g2
            obtain ⟨a', vs, p1, p2, p3, p4, p5⟩ := R2.mem j xs hx
            rw [ix_app ea] at p1; cases p1
            cases s2 with
            | dat d2 =>
              cases d2
              obtain ⟨w, hw, sw⟩ := p5.get hz
              refine ⟨a, vs, k, m, w, rfl, rfl, p4, hk.1, hk.2, by rw [← p5.length]; exact (ixN_seq hm).1, hw, ?_⟩
              exact q _ G2 _ w (g1.trans ⟨gs, more, rfl⟩) (R2.write hx (ix_app ea) (p5.eraseIdx m) fun c hc => List.mem_of_mem_eraseIdx hc) sw
      · cases h
    · cases h
def cellAt (M : Mem) (v : SV) : Option (Nat × List SV) := match v with
  | .cel j => match M[j]? with
    | some (some xs) => some (j, xs)
    | _ => none
  | _ => none
theorem cellAt_some {M : Mem} {v : SV} {j : Nat} {xs : List SV} (h : cellAt M v = some (j, xs)) : v = .cel j ∧ M[j]? = some (some xs) := by
  unfold cellAt at h
  split at h
  · split at h
    · rename_i e; cases h; exact ⟨rfl, e⟩
    · cases h
  · cases h
theorem cellAt_eq {M : Mem} {j : Nat} {xs : List SV} (h : M[j]? = some (some xs)) : cellAt M (.cel j) = some (j, xs) := by simp only [cellAt, h]
def intV : SV → Option Int
  | .dat (.int k) => some k
  | _ => none
def datV : SV → Option PyData
  | .dat d => some d
  | _ => none
theorem intV_some {v : SV} {k : Int} (h : intV v = some k) : v = .dat (.int k) := by
  unfold intV at h
  split at h
  · cases h; rfl
  · cases h
theorem datV_some {v : SV} {d : PyData} (h : datV v = some d) : v = .dat d := by
  unfold datV at h
  split at h
  · cases h; rfl
  · cases h
def sIns (o i a : SE) : SS := fun ρ M => (o ρ M).bind fun x => (i ρ x.2).bind fun y => (a ρ y.2).bind fun z => (cellAt x.2 x.1).bind fun c => (cellAt z.2 x.1).bind fun c2 => (intV y.1).bind fun k => (datV z.1).bind fun d =>
  if 0 ≤ k ∧ k < 2 ^ 63 ∧ c2.2.length < 100000 then some (.nx ρ (z.2.set c2.1 (some (c2.2.take k.toNat ++ [.dat d] ++ c2.2.drop k.toNat)))) else none
def rIns1 : V → List V → Hp → VK → Prop := fun x vs H Q => ∃ (l : Addr) (xs : List V) (i : Int) (y : V), x = .ref l ∧ vs = [.int i, y] ∧ H l = some (.lst xs) ∧ xs.length < sizeLine ∧ 0 ≤ i ∧ i < 2 ^ 63 ∧ Q .non (upd H l (.lst (xs.take i.toNat ++ [y] ++ xs.drop i.toNat)))
theorem mt_ins1 {X : Cx} : MtR X "list.insert" rIns1 := mt_insert
theorem et_ins {to ti ta : TE} {o i a : SE} (ho : EvS K to o) (hi : EvS K ti i) (ha : EvS K ta a) : EvT K (tDrop (tBM K "list" rIns1 to (tCons ti (tCons ta tNil)))) (sIns o i a) := by
  intro ρ M c h F π G H σ R S D q
  unfold sIns at h
  obtain ⟨⟨x, M1⟩, h1, h⟩ := Option.bind_eq_some_iff.mp h
  obtain ⟨⟨y, M2⟩, h2, h⟩ := Option.bind_eq_some_iff.mp h
  obtain ⟨⟨z, M3⟩, h3, h⟩ := Option.bind_eq_some_iff.mp h
  obtain ⟨⟨j0, xs0⟩, c1, h⟩ := Option.bind_eq_some_iff.mp h
  obtain ⟨⟨j, xs⟩, c2, h⟩ := Option.bind_eq_some_iff.mp h
  obtain ⟨k, c3, h⟩ := Option.bind_eq_some_iff.mp h
  obtain ⟨d, c4, hh⟩ := Option.bind_eq_some_iff.mp h
  clear h
  dsimp only at h1 h2 h3 c1 c2 c3 c4 hh
  obtain ⟨rfl, hx0⟩ := cellAt_some c1
  obtain ⟨e, hx⟩ := cellAt_some c2
  cases e
  have e3 := intV_some c3
  have e4 := datV_some c4
  subst e3 e4
  split at hh
  · rename_i hk
    cases hh
    refine ho ρ M _ M1 h1 F π G H σ R S _ fun π1 G1 H1 v1 g1 R1 s1 => ?_
    cases s1 with
    | @cel _ a ea =>
      refine ⟨?_, ?_⟩
      · obtain ⟨b, ws, p1, p2, p3, p4, p5⟩ := R1.mem j0 xs0 hx0
        rw [ea] at p1; cases p1
        exact .inl ⟨rfl, _, SqL.of p4⟩
      · refine hi ρ M1 _ M2 h2 F π1 G1 H1 σ R1 (S.gr g1) _ fun π2 G2 H2 v2 g2 R2 s2 => ?_
        refine ha ρ M2 _ M3 h3 F π2 G2 H2 σ R2 (S.gr (g1.trans g2)) _ fun π3 G3 H3 v3 g3 R3 s3 => ?_
        have g23 := g2.trans g3
        obtain ⟨gs, more, e⟩ := g23
        subst e
        obtain ⟨a', vs, p1, p2, p3, p4, p5⟩ := R3.mem j0 xs hx
        rw [ix_app ea] at p1; cases p1
        cases s2 with
        | dat d2 =>
          cases d2
          refine ⟨a, vs, k, v3, rfl, rfl, p4, szl (by rw [← p5.length]; exact hk.2.2), hk.1, hk.2.1, ?_⟩
          refine q _ G3 _ σ (g1.trans ⟨gs, more, rfl⟩) (R3.write hx (ix_app ea) (((p5.take k.toNat).append (.cons s3 .nil)).append (p5.drop k.toNat)) fun c hc => ?_) (S.gr (g1.trans ⟨gs, more, rfl⟩))
          rcases List.mem_append.mp hc with w | w
          · rcases List.mem_append.mp w with w | w
            · exact List.mem_of_mem_take w
            · rw [List.mem_singleton] at w; cases w
          · exact List.mem_of_mem_drop w
  · cases hh
/-- o.extend(a), a a list just made -/
def sExt (o a : SE) : SS := fun ρ M => (o ρ M).bind fun x => (a ρ x.2).bind fun y => (cellAt x.2 x.1).bind fun c => (cellAt y.2 x.1).bind fun c1 => (cellAt y.2 y.1).bind fun c2 => (dats c2.2).bind fun _ =>
  if c1.2.length + c2.2.length ≤ 100000 then some (.nx ρ (y.2.set c1.1 (some (c1.2 ++ c2.2)))) else none
theorem dats_nocel : ∀ {xs : List SV} {ds : List PyData}, dats xs = some ds → ∀ j, SV.cel j ∉ xs
  | [], _, _, j, h => by cases h
  | .dat d :: xs, ds, h, j, hm => by
    unfold dats at h
    obtain ⟨es, h1, h2⟩ := Option.bind_eq_some_iff.mp h
    rcases List.mem_cons.mp hm with e | e
    · cases e
    · exact dats_nocel h1 j e
  | .cel i :: xs, ds, h, j, hm => by cases h
theorem et_ext {to ta : TE} {o a : SE} (ho : EvS K to o) (ha : EvS K ta a) : EvT K (tDrop (tBM K "list" rExtend to (tCons ta tNil))) (sExt o a) := by
  intro ρ M c h F π G H σ R S D q
  unfold sExt at h
  obtain ⟨⟨x, M1⟩, h1, h⟩ := Option.bind_eq_some_iff.mp h
  obtain ⟨⟨y, M2⟩, h2, h⟩ := Option.bind_eq_some_iff.mp h
  obtain ⟨⟨j0, xs0⟩, c1, h⟩ := Option.bind_eq_some_iff.mp h
  obtain ⟨⟨j, xs⟩, c2, h⟩ := Option.bind_eq_some_iff.mp h
  obtain ⟨⟨k, zs⟩, c3, h⟩ := Option.bind_eq_some_iff.mp h
  obtain ⟨ds, c4, hh⟩ := Option.bind_eq_some_iff.mp h
  clear h
  dsimp only at h1 h2 c1 c2 c3 c4 hh
  obtain ⟨rfl, hx0⟩ := cellAt_some c1
  obtain ⟨e, hx⟩ := cellAt_some c2
  cases e
  obtain ⟨rfl, hz⟩ := cellAt_some c3
  split at hh
  · rename_i hk
    cases hh
    refine ho ρ M _ M1 h1 F π G H σ R S _ fun π1 G1 H1 v1 g1 R1 s1 => ?_
    cases s1 with
    | @cel _ a ea =>
      refine ⟨?_, ?_⟩
      · obtain ⟨b, ws, p1, p2, p3, p4, p5⟩ := R1.mem j0 xs0 hx0
        rw [ea] at p1; cases p1
        exact .inl ⟨rfl, _, SqL.of p4⟩
      · refine ha ρ M1 _ M2 h2 F π1 G1 H1 σ R1 (S.gr g1) _ fun π2 G2 H2 v2 g2 R2 s2 => ?_
        obtain ⟨gs, more, rfl⟩ := g2
        obtain ⟨a', vs, p1, p2, p3, p4, p5⟩ := R2.mem j0 xs hx
        rw [ix_app ea] at p1; cases p1
        cases s2 with
        | @cel _ b eb =>
          obtain ⟨b', ws, r1, r2, r3, r4, r5⟩ := R2.mem k zs hz
          rw [eb] at r1; cases r1
          refine ⟨a, b, vs, ws, rfl, rfl, p4, r4, sz (by rw [← p5.length, ← r5.length]; exact hk), ?_⟩
          refine q _ G2 _ σ (g1.trans ⟨gs, more, rfl⟩) (R2.write hx (ix_app ea) (p5.append r5) fun c hc => ?_) (S.gr (g1.trans ⟨gs, more, rfl⟩))
          rcases List.mem_append.mp hc with w | w
          · exact w
          · exact absurd w (dats_nocel c4 c)
  · cases hh
/-! is not None -/
def dNotN : PyData → PyData → Option PyData
  | .none, .none => some (.bool false)
  | .dict _, .none => some (.bool true)
  | .list _, .none => some (.bool true)
  | .tuple _, .none => some (.bool true)
  | .int _, .none => some (.bool true)
  | .str _, .none => some (.bool true)
  | .bool _, .none => some (.bool true)
  | _, _ => none
def rNotN' : R2 := fun x y H Q => y = .non ∧ Q (.bl (!decide (x = .non))) H
theorem os_notN : OpS K rNotN' (lift2 dNotN) := os_lift (by
  intro x y z e G H v w sm dx dy Q q
  cases dy <;> (cases dx <;> first | cases e | skip)
  all_goals exact ⟨rfl, q G H _ .same (.bl _)⟩)
end
end Sm

/-! SmX2: lists of lists that change. -/
namespace Sm
open PySem PySem.Spec PyProof.Rows L2
section
variable {K : PySem.W.Frag} {ta : TE} {a : SE}
/-- list(x) of a list or tuple held still: a new list that may change -/
def eLsN (a : SE) : SE := fun ρ M => (a ρ M).bind fun x => (items x.2 x.1).bind fun ds => some (.cel x.2.length, x.2 ++ [some (ds.map SV.dat)])
theorem ev_lsN {ta : TA} {a : SE} (ha : EvA K ta (aCons a aNil)) : EvS K (tCB (fun xs H Q => ∃ x, xs = [x] ∧ rLst1 K x H Q) ta) (eLsN a) := by
  intro ρ M r M' h F π G H σ R S Q q
  unfold eLsN at h
  obtain ⟨⟨x, M1⟩, h1, h⟩ := Option.bind_eq_some_iff.mp h
  obtain ⟨ds, h2, h⟩ := Option.bind_eq_some_iff.mp h
  cases h
  have h1' : aCons a aNil ρ M = some ([x], M1) := by simp only [aCons, h1, Option.bind_some, aNil]
  refine ha ρ M _ M1 h1' F π G H σ R S _ fun π1 G1 H1 v1 g1 R1 s1 => ?_
  cases s1 with
  | cons s1 s2 =>
    cases s2
    obtain ⟨p, ys, rfl, hs, hd⟩ := items_sq R1 s1 h2
    refine ⟨_, rfl, p, ys, rfl, hs, fun l hl => ?_⟩
    have hn : (π1 ++ [l])[M1.length]? = some l := by rw [List.getElem?_append_right (by rw [R1.len]; exact Nat.le_refl _), R1.len, Nat.sub_self]; rfl
    exact q (π1 ++ [l]) G1 _ _ (g1.trans ⟨Same.refl G1, [l], rfl⟩) (R1.push hl (Svs.ofD hd)) (.cel hn)
/-! a comprehension that makes lists that may change -/
def lcC (g : SG) (el : SE) (ρ : Rho) : List PyData → Mem → Option (List SV × Mem)
  | [], M => some ([], M)
  | d :: ds, M => (g (.dat d) ρ M).bind fun y => (el y.1 y.2).bind fun r => (lcC g el ρ ds r.2).bind fun z => some (r.1 :: z.1, z.2)
def eLcC (it : SI) (g : SG) (el : SE) (vs : List Nat) : SE := fun ρ M => (it ρ M).bind fun x => if x.1.length ≤ 100000 then (lcC g el (wipeR ρ vs) x.1 x.2).bind fun z => some (.cel z.2.length, z.2 ++ [some z.1]) else none
theorem ev_lcC {wi : TI} {g : TG} {it : SI} {sg : SG} {vs : List Nat} (hi : EvI K wi it) (hg : EvG K g sg) (hw : GW g vs) (he : EvS K ta a) : EvS K (tLc wi g tYes ta vs) (eLcC it sg a vs) := by
  intro ρ M z M' h F π G H σ R S Q q
  unfold eLcC at h
  obtain ⟨⟨ds, M1⟩, e, h⟩ := Option.bind_eq_some_iff.mp h
  split at h
  · rename_i hz
    dsimp only at hz
    obtain ⟨⟨out, M2⟩, e2, h⟩ := Option.bind_eq_some_iff.mp h
    cases h
    refine hi ρ M ds M1 e F π G H σ R S _ fun π1 G1 H1 J g1 R1 ok => ?_
    intro D hD
    have S1 := (S.gr g1).wiped vs
    have hF := R1.frNone hD
    let W : Nat → Hp → Prop := fun i H => ∃ M π' G' acc vs' rest, i ≤ ds.length ∧ vs'.length ≤ i ∧ Gr π1 π' G1 G' ∧ Rel K (upd F D (.lst vs')) π' G' H M ∧ Svs K π' G' acc vs' ∧ lcC sg a (wipeR ρ vs) (ds.drop i) M = some (rest, M2) ∧ out = acc ++ rest
    refine ⟨fun i m H => m = ds.length - i ∧ W i H, ⟨_, rfl, M1, π1, G1, [], [], out, Nat.zero_le _, Nat.le_refl _, Gr.refl, R1.frame hD, .nil, e2, rfl⟩, ?_⟩
    rintro i m H' ⟨rfl, M3, π', G', acc, vs', rest, hle, hvl, g', R', hacc, hl, ho⟩
    by_cases hlt : i < ds.length
    · refine .inr ⟨ok.go i H' (fun b o x => R'.ex b o (g'.s b o x)) hlt, W (i + 1), fun H'' w => ⟨ds.length - (i + 1), by omega, rfl, w⟩, fun x H'' y => ?_⟩
      obtain ⟨d, G3, e3, al, hd⟩ := ok.yld i H' x H'' G' g'.s R'.ex y hlt
      have ed : ds.drop i = d :: ds.drop (i + 1) := by
        rw [List.drop_eq_getElem_cons hlt]
        rw [List.getElem?_eq_getElem hlt] at e3
        cases e3; rfl
      rw [ed] at hl
      unfold lcC at hl
      obtain ⟨⟨ρ2, M4⟩, e4, hl⟩ := Option.bind_eq_some_iff.mp hl
      have ga := Gr.of (π := π') (R'.alSame al)
      have hwi : wipe (wipe σ vs) vs = wipe σ vs := wipe_wipe σ vs vs (fun v hv => hv)
      have key : ∀ Q' : L2.St → Hp → Prop, (∀ π4 G4 H4 σ4, Gr π' π4 G3 G4 → Rel K (upd F D (.lst vs')) π4 G4 H4 M4 → Slots K π4 G4 ρ2 σ4 → Q' σ4 H4) → g x (wipe σ vs) H'' fun σ2 H2 => wipe σ2 vs = wipe σ vs ∧ Q' σ2 H2 := by
        intro Q' hQ
        have := hw x (wipe σ vs) H'' Q' (hg (.dat d) (wipeR ρ vs) M3 ρ2 M4 e4 (upd F D (.lst vs')) π' G3 H'' x (wipe σ vs) (R'.al al) (S1.gr (g'.trans ga)) (.dat hd) Q' hQ)
        rw [hwi] at this
        exact this
      refine key _ fun π4 G4 H4 σ4 g4 R4 S4 => ?_
      have gg := (g'.trans ga).trans g4
      have gh := ga.trans g4
      refine eb_yes ρ2 M4 true M4 rfl _ π4 G4 H4 σ4 R4 S4 _ fun π5 G5 H5 g5 R5 => ?_
      rw [if_pos rfl]
      obtain ⟨⟨r, M6⟩, e6, hl⟩ := Option.bind_eq_some_iff.mp hl
      refine he ρ2 M4 r M6 e6 _ π5 G5 H5 σ4 R5 (S4.gr g5) _ fun π6 G6 H6 v6 g6 R6 s6 => ?_
      obtain ⟨⟨rest', M7⟩, e7, hl⟩ := Option.bind_eq_some_iff.mp hl
      cases hl
      have gt := (gh.trans g5).trans g6
      refine ⟨vs', (R6.fr D _ upd_same).1, szl (by omega), ?_⟩
      refine ⟨M6, π6, G6, acc ++ [r], vs' ++ [v6], rest', hlt, by rw [List.length_append]; simp; omega, (gg.trans g5).trans g6, ?_, (hacc.gr gt).append (.cons s6 .nil), e7, by rw [ho]; simp⟩
      have := R6.framed (o' := .lst (vs' ++ [v6])) upd_same
      rw [upd_upd] at this
      exact this
    · have e : ds.drop i = [] := List.drop_of_length_le (by omega)
      rw [e] at hl
      cases hl
      rw [List.append_nil] at ho
      subst ho
      refine .inl ⟨ok.stop i H' (fun b o x => R'.ex b o (g'.s b o x)) (by omega), ?_⟩
      refine q (π' ++ [D]) G' H' _ ((g1.trans g').trans ⟨Same.refl G', [D], rfl⟩) (R'.adopt hF hacc) (.cel ?_)
      show (π' ++ [D])[M2.length]? = some D
      rw [List.getElem?_append_right (by rw [R'.len]; exact Nat.le_refl _), R'.len, Nat.sub_self]; rfl
  · cases h
/-- a list that may change, so many times over: a new one -/
def eRepN (a b : SE) : SE := fun ρ M => (a ρ M).bind fun x => (b ρ x.2).bind fun y => (cellAt y.2 x.1).bind fun c => (intV y.1).bind fun k => (dats c.2).bind fun ds =>
  if 0 ≤ k ∧ k ≤ 1000 ∧ ds.length ≤ 100 then some (.cel y.2.length, y.2 ++ [some ((List.replicate k.toNat ds).flatten.map SV.dat)]) else none
theorem flat_len {α : Type} (xs : List α) : ∀ n : Nat, (List.replicate n xs).flatten.length = n * xs.length
  | 0 => by simp
  | n + 1 => by rw [List.replicate_succ, List.flatten_cons, List.length_append, flat_len xs n, Nat.succ_mul]; omega
theorem ev_repN {ta tb : TE} {a b : SE} (ha : EvS K ta a) (hb : EvS K tb b) : EvS K (tOp rRep ta tb) (eRepN a b) := by
  intro ρ M r M' h F π G H σ R S Q q
  unfold eRepN at h
  obtain ⟨⟨x, M1⟩, h1, h⟩ := Option.bind_eq_some_iff.mp h
  obtain ⟨⟨y, M2⟩, h2, h⟩ := Option.bind_eq_some_iff.mp h
  obtain ⟨⟨j, xs⟩, c1, h⟩ := Option.bind_eq_some_iff.mp h
  obtain ⟨k, c2, h⟩ := Option.bind_eq_some_iff.mp h
  obtain ⟨ds, c3, hh⟩ := Option.bind_eq_some_iff.mp h
  clear h
  dsimp only at h1 h2 c1 c2 c3 hh
  obtain ⟨rfl, hx⟩ := cellAt_some c1
  have e3 := intV_some c2
  subst e3
  split at hh
  · rename_i hk
    cases hh
    refine ha ρ M _ M1 h1 F π G H σ R S _ fun π1 G1 H1 v1 g1 R1 s1 => ?_
    refine hb ρ M1 _ M2 h2 F π1 G1 H1 σ R1 (S.gr g1) _ fun π2 G2 H2 v2 g2 R2 s2 => ?_
    have s1' := s1.gr g2
    cases s1' with
    | @cel _ a ea =>
      cases s2 with
      | dat d2 =>
        cases d2
        obtain ⟨a', vs, p1, p2, p3, p4, p5⟩ := R2.mem j xs hx
        rw [ea] at p1; cases p1
        have hd := dats_all c3 p5
        have hl : vs.length = ds.length := hd.length
        have hm : vs.length * k.toNat ≤ 100 * 1000 := Nat.mul_le_mul (by omega) (by omega)
        refine ⟨a, k, vs, rfl, rfl, p4, by omega, by omega, sz (by omega), fun l hn => ?_⟩
        have hn' : (π2 ++ [l])[M2.length]? = some l := by rw [List.getElem?_append_right (by rw [R2.len]; exact Nat.le_refl _), R2.len, Nat.sub_self]; rfl
        exact q (π2 ++ [l]) G2 _ _ ((g1.trans g2).trans ⟨Same.refl G2, [l], rfl⟩) (R2.push hn (Svs.ofD (DqAll.flat k.toNat hd))) (.cel hn')
  · cases hh
/-! a list of lists is held still from now on, its lists too -/
def frzAll : Mem → List SV → Option (List PyData × Mem)
  | M, [] => some ([], M)
  | M, .dat d :: r => (frzAll M r).bind fun z => some (d :: z.1, z.2)
  | M, .cel k :: r => (cellAt M (.cel k)).bind fun c => (dats c.2).bind fun ds => (frzAll (M.set k none) r).bind fun z => some (.list ds :: z.1, z.2)
theorem frz_core {F : Hp} {π : List Addr} {H : Hp} : ∀ (xs : List SV) {vs : List V} {G : Hp} {M M' : Mem} {ds : List PyData}, frzAll M xs = some (ds, M') → Rel K F π G H M → Svs K π G xs vs → ∃ G', Same G G' ∧ Rel K F π G' H M' ∧ DqAll K G' vs ds
  | [], vs, G, M, M', ds, h, R, s => by
    cases h; cases s
    exact ⟨G, Same.refl G, R, .nil⟩
  | .dat d :: r, vs, G, M, M', ds, h, R, s => by
    unfold frzAll at h
    obtain ⟨⟨es, M2⟩, h1, h2⟩ := Option.bind_eq_some_iff.mp h
    cases h2
    cases s with
    | cons s1 s2 =>
      cases s1 with
      | dat d1 =>
        obtain ⟨G', g1, R', da⟩ := frz_core r h1 R s2
        exact ⟨G', g1, R', .cons (d1.mono g1) da⟩
  | .cel k :: r, vs, G, M, M', ds, h, R, s => by
    unfold frzAll at h
    obtain ⟨⟨k', ys⟩, c1, h⟩ := Option.bind_eq_some_iff.mp h
    obtain ⟨es, c2, h⟩ := Option.bind_eq_some_iff.mp h
    obtain ⟨⟨fs, M2⟩, c3, h⟩ := Option.bind_eq_some_iff.mp h
    cases h
    obtain ⟨e, hk⟩ := cellAt_some c1
    cases e
    cases s with
    | cons s1 s2 =>
      cases s1 with
      | @cel _ a ea =>
        obtain ⟨a', ws, p1, p2, p3, p4, p5⟩ := R.mem k ys hk
        rw [ea] at p1; cases p1
        obtain ⟨R1, sg⟩ := R.freeze hk ea p4
        obtain ⟨G', g1, R', da⟩ := frz_core r c3 R1 (s2.mono0 sg)
        exact ⟨G', sg.trans g1, R', .cons (.lst (SqL.of (g1 _ _ upd_same)) ((dats_all c2 p5).mono (sg.trans g1))) da⟩
def sFrzD (i : Nat) (s : SS) : SS := fun ρ M => (s ρ M).bind fun c => match c with
  | .nx ρ' M' => match ρ'[i]? with
    | some (some (.cel j)) => (cellAt M' (.cel j)).bind fun c => (frzAll M' c.2).bind fun z => (cellAt z.2 (.cel j)).bind fun c2 => if c2.2.length = c.2.length then some (.nx (ρ'.set i (some (.dat (.list z.1)))) (z.2.set j none)) else none
    | _ => none
  | c => some c
theorem et_frzD {i : Nat} {s : SS} {t : TS} (hs : EvT K t s) : EvT K t (sFrzD i s) := by
  intro ρ M c h F π G H σ R S D q
  unfold sFrzD at h
  obtain ⟨k, e, h⟩ := Option.bind_eq_some_iff.mp h
  refine hs ρ M k e F π G H σ R S D ?_
  cases k with
  | nx ρ' M' =>
    dsimp only at h
    intro π' G' H' σ' g R' S'
    split at h
    · rename_i j hj
      obtain ⟨⟨j1, xs⟩, c1, h⟩ := Option.bind_eq_some_iff.mp h
      obtain ⟨⟨ds, M2⟩, c2, h⟩ := Option.bind_eq_some_iff.mp h
      obtain ⟨⟨j2, xs2⟩, c3, hh⟩ := Option.bind_eq_some_iff.mp h
      clear h
      dsimp only at c1 c2 c3 hh
      obtain ⟨e1, hx⟩ := cellAt_some c1
      cases e1
      obtain ⟨e2, hx2⟩ := cellAt_some c3
      cases e2
      split at hh
      · cases hh
        obtain ⟨a, vs, p1, p2, p3, p4, p5⟩ := R'.mem j xs hx
        obtain ⟨G2, g2, R2, da⟩ := frz_core xs c2 R' p5
        obtain ⟨a', vs', r1, r2, r3, r4, r5⟩ := R2.mem j xs2 hx2
        rw [p1] at r1; cases r1
        rw [p4] at r4; cases r4
        obtain ⟨y, hy, sy⟩ := S'.get hj
        cases sy with
        | cel ea =>
          rw [p1] at ea
          cases ea
          obtain ⟨R3, sg⟩ := R2.freeze hx2 p1 p4
          have S2 := (S'.gr (Gr.of (g2.trans sg))).set (.dat (.lst (SqL.of upd_same) (da.mono sg))) i
          have es : σ'.set i (some (.ref a)) = σ' := by
            apply List.ext_getElem?
            intro n
            by_cases hn : i = n
            · subst hn
              obtain ⟨hlt, _⟩ := List.getElem?_eq_some_iff.mp hy
              rw [List.getElem?_set_self hlt, hy]
            · rw [List.getElem?_set_ne hn]
          rw [es] at S2
          exact q π' _ H' σ' (g.trans (.of (g2.trans sg))) R3 S2
      · cases hh
    · cases h
  | rt r M' => cases h; exact q
  | bk ρ' M' => cases h; exact q
  | ct ρ' M' => cases h; exact q
end
end Sm

/-! SmX3: list(range(n)), max and min of a list, a list taken apart. -/
namespace Sm
open PySem PySem.Spec PyProof.Rows L2
section
variable {K : PySem.W.Frag}
def eLr1 (a : SE) : SE := fun ρ M => (a ρ M).bind fun x => (intV x.1).bind fun j => if -(2 ^ 20) ≤ j ∧ j < 2 ^ 20 then some (.dat (.list (rangeD 0 j)), x.2) else none
theorem ev_lr1 {ta : TE} {a : SE} (ha : EvS K ta a) : EvS K (tLstRg (tRg1 ta)) (eLr1 a) := by
  intro ρ M z M' h F π G H σ R S Q q
  unfold eLr1 at h
  obtain ⟨⟨x, N1⟩, h1, h⟩ := Option.bind_eq_some_iff.mp h
  obtain ⟨j, c, hh⟩ := Option.bind_eq_some_iff.mp h
  clear h
  dsimp only at h1 c hh
  have e := intV_some c
  subst e
  split at hh
  · rename_i hk
    cases hh
    refine ha ρ M _ _ h1 F π G H σ R S _ fun π1 G1 H1 v1 g1 R1 s1 => ?_
    cases s1 with
    | dat d1 =>
      cases d1
      refine ⟨j, rfl, ⟨by omega, by omega, by omega, by omega, by omega⟩, fun p hp => ?_⟩
      have al : Al G1 H1 (upd G1 p (.lst (rgV 0 j))) (upd H1 p (.lst (rgV 0 j))) := .new hp
      exact q π1 _ _ _ (g1.trans (.of (R1.alSame al))) (R1.al al) (.dat (.lst (SqL.of upd_same) (rg_all 0 j)))
  · cases hh
/-- list(range(n)), a list that may change -/
def eLrN (a : SE) : SE := fun ρ M => (a ρ M).bind fun x => (intV x.1).bind fun j => if -(2 ^ 20) ≤ j ∧ j < 2 ^ 20 then some (.cel x.2.length, x.2 ++ [some ((rangeD 0 j).map SV.dat)]) else none
theorem ev_lrN {ta : TE} {a : SE} (ha : EvS K ta a) : EvS K (tLstRg (tRg1 ta)) (eLrN a) := by
  intro ρ M z M' h F π G H σ R S Q q
  unfold eLrN at h
  obtain ⟨⟨x, N1⟩, h1, h⟩ := Option.bind_eq_some_iff.mp h
  obtain ⟨j, c, hh⟩ := Option.bind_eq_some_iff.mp h
  clear h
  dsimp only at h1 c hh
  have e := intV_some c
  subst e
  split at hh
  · rename_i hk
    cases hh
    refine ha ρ M _ N1 h1 F π G H σ R S _ fun π1 G1 H1 v1 g1 R1 s1 => ?_
    cases s1 with
    | dat d1 =>
      cases d1
      refine ⟨j, rfl, ⟨by omega, by omega, by omega, by omega, by omega⟩, fun l hn => ?_⟩
      have hn' : (π1 ++ [l])[N1.length]? = some l := by rw [List.getElem?_append_right (by rw [R1.len]; exact Nat.le_refl _), R1.len, Nat.sub_self]; rfl
      exact q (π1 ++ [l]) G1 _ _ (g1.trans ⟨Same.refl G1, [l], rfl⟩) (R1.push hn (Svs.ofD (rg_all 0 j))) (.cel hn')
  · cases hh
/-! max, min -/
def maxI : List Int → Int
  | [] => 0
  | [x] => x
  | x :: y :: r => max x (maxI (y :: r))
def minI : List Int → Int
  | [] => 0
  | [x] => x
  | x :: y :: r => min x (minI (y :: r))
theorem maxI_ge : ∀ (l : List Int) (z : Int), z ∈ l → z ≤ maxI l
  | [], _, h => by cases h
  | [x], z, h => by rw [List.mem_singleton] at h; rw [h]; exact Int.le_refl _
  | x :: y :: r, z, h => by
    rw [maxI]
    rcases List.mem_cons.mp h with e | e
    · rw [e]; exact Int.le_max_left _ _
    · exact Int.le_trans (maxI_ge (y :: r) z e) (Int.le_max_right _ _)
theorem maxI_mem : ∀ (l : List Int), 0 < l.length → maxI l ∈ l
  | [], h => by cases h
  | [x], _ => List.mem_singleton_self x
  | x :: y :: r, _ => by
    rw [maxI]
    have ih := maxI_mem (y :: r) (by simp)
    rcases Int.le_total x (maxI (y :: r)) with q | q
    · rw [Int.max_eq_right q]; exact List.mem_cons_of_mem _ ih
    · rw [Int.max_eq_left q]; exact List.mem_cons_self
theorem minI_le : ∀ (l : List Int) (z : Int), z ∈ l → minI l ≤ z
  | [], _, h => by cases h
  | [x], z, h => by rw [List.mem_singleton] at h; rw [h]; exact Int.le_refl _
  | x :: y :: r, z, h => by
    rw [minI]
    rcases List.mem_cons.mp h with e | e
    · rw [e]; exact Int.min_le_left _ _
    · exact Int.le_trans (Int.min_le_right _ _) (minI_le (y :: r) z e)
theorem minI_mem : ∀ (l : List Int), 0 < l.length → minI l ∈ l
  | [], h => by cases h
  | [x], _ => List.mem_singleton_self x
  | x :: y :: r, _ => by
    rw [minI]
    have ih := minI_mem (y :: r) (by simp)
    rcases Int.le_total x (minI (y :: r)) with q | q
    · rw [Int.min_eq_left q]; exact List.mem_cons_self
    · rw [Int.min_eq_right q]; exact List.mem_cons_of_mem _ ih
def rMax1 (K : PySem.W.Frag) : V → Hp → VK → Prop := fun x H Q => ∃ (a : Addr) (ns : List Int), x = .ref a ∧ SqL K H a (ns.map V.int) ∧ 0 < ns.length ∧ Q (.int (maxI ns)) H
def rMin1 (K : PySem.W.Frag) : V → Hp → VK → Prop := fun x H Q => ∃ (a : Addr) (ns : List Int), x = .ref a ∧ SqL K H a (ns.map V.int) ∧ 0 < ns.length ∧ Q (.int (minI ns)) H
theorem call_max1 {X : Cx} (hc : X.calm = true) : CallR X (.builtin "max") (fun xs H Q => ∃ x, xs = [x] ∧ rMax1 X.K x H Q) := by
  intro pins s σ H xs us Q I r h
  obtain ⟨x, rfl, a, ns, rfl, hs, h0, q⟩ := h
  refine cr_max hc pins s σ H _ us Q I r ⟨a, ns, rfl, hs, h0, fun m h1 h2 => ?_⟩
  rw [show m = maxI ns from Int.le_antisymm (maxI_ge ns m h1) (h2 _ (maxI_mem ns h0))]
  exact q
theorem call_min1 {X : Cx} (hc : X.calm = true) : CallR X (.builtin "min") (fun xs H Q => ∃ x, xs = [x] ∧ rMin1 X.K x H Q) := by
  intro pins s σ H xs us Q I r h
  obtain ⟨x, rfl, a, ns, rfl, hs, h0, q⟩ := h
  refine cr_min hc pins s σ H _ us Q I r ⟨a, ns, rfl, hs, h0, fun m h1 h2 => ?_⟩
  rw [show m = minI ns from Int.le_antisymm (h2 _ (minI_mem ns h0)) (minI_le ns m h1)]
  exact q
def dMaxL : PyData → Option PyData
  | .list ds => (intsOf ds).bind fun ns => if 0 < ns.length then some (.int (maxI ns)) else none
  | _ => none
def dMinL : PyData → Option PyData
  | .list ds => (intsOf ds).bind fun ns => if 0 < ns.length then some (.int (minI ns)) else none
  | _ => none
theorem us_max : UnS K (rMax1 K) (lift1 dMaxL) := us_lift (by
  intro x z e G H v sm dx Q q
  cases dx <;> first | cases e | skip
  rename_i a xs ds hs ha
  obtain ⟨bs, h1, e⟩ := Option.bind_eq_some_iff.mp e
  split at e
  · rename_i h0
    cases e
    have e := ints_of ha h1
    subst e
    exact ⟨a, bs, rfl, sm.seq hs, h0, q G H _ .same (.int _)⟩
  · cases e)
theorem us_min : UnS K (rMin1 K) (lift1 dMinL) := us_lift (by
  intro x z e G H v sm dx Q q
  cases dx <;> first | cases e | skip
  rename_i a xs ds hs ha
  obtain ⟨bs, h1, e⟩ := Option.bind_eq_some_iff.mp e
  split at e
  · rename_i h0
    cases e
    have e := ints_of ha h1
    subst e
    exact ⟨a, bs, rfl, sm.seq hs, h0, q G H _ .same (.int _)⟩
  · cases e)
/-! a list that may change, taken apart -/
def setAllV : List Nat → List SV → Rho → Rho
  | i :: is, d :: ds, ρ => setAllV is ds (ρ.set i (some d))
  | _, _, ρ => ρ
def gTpC (is : List Nat) : SG := fun r ρ M => (cellAt M r).bind fun c => if c.2.length = is.length then some (setAllV is c.2 ρ, M) else none
theorem eg_namesV : ∀ {is : List Nat} {ds : List SV} {vs : List V} {ρ : Rho} {π : List Addr} {G H : Hp} {σ : L2.St} {Q : L2.St → Hp → Prop}, ds.length = is.length → Svs K π G ds vs → Slots K π G ρ σ →
    (∀ σ', Slots K π G (setAllV is ds ρ) σ' → Q σ' H) → gNames is vs σ H Q
  | [], [], _, _, _, _, _, _, _, _, .nil, S, q => ⟨rfl, q _ S⟩
  | i :: is, d :: ds, _, _, _, _, _, _, _, hl, .cons h r, S, q => ⟨_, _, rfl, eg_namesV (by simpa using hl) r (S.set h i) q⟩
  | [], _ :: _, _, _, _, _, _, _, _, hl, _, _, _ => by simp at hl
  | _ :: _, [], _, _, _, _, _, _, _, hl, _, _, _ => by simp at hl
theorem eg_unl {is : List Nat} {n : Nat} (hn : n = is.length) : EvG K (gUnl K n (gNames is)) (gTpC is) := by
  intro r ρ M ρ' M' h F π G H v σ R S s Q q
  subst hn
  unfold gTpC at h
  obtain ⟨⟨j, xs⟩, c, hh⟩ := Option.bind_eq_some_iff.mp h
  clear h
  dsimp only at c hh
  obtain ⟨rfl, hx⟩ := cellAt_some c
  split at hh
  · rename_i hl
    cases hh
    cases s with
    | @cel _ a ea =>
      obtain ⟨a', vs, p1, p2, p3, p4, p5⟩ := R.mem j xs hx
      rw [ea] at p1; cases p1
      exact ⟨a, vs, rfl, SqL.of p4, by rw [← p5.length, hl], eg_namesV hl p5 S fun σ' S' => q π G H σ' Gr.refl R S'⟩
  · cases hh
end
end Sm

/-! SmX4: enumerate of a list; targets within targets. -/
namespace Sm
open PySem PySem.Spec PyProof.Rows L2
section
variable {K : PySem.W.Frag}
def enumD (ds : List PyData) : List PyData := (List.range ds.length).map fun i => PyData.tuple [.int (i : Nat), (ds[i]?).getD .none]
theorem enumD_len (ds : List PyData) : (enumD ds).length = ds.length := by simp [enumD]
theorem enumD_get {ds : List PyData} {i : Nat} {d : PyData} (h : ds[i]? = some d) : (enumD ds)[i]? = some (.tuple [.int (i : Nat), d]) := by
  obtain ⟨hi, _⟩ := List.getElem?_eq_some_iff.mp h
  unfold enumD
  rw [List.getElem?_map, List.getElem?_range hi]
  simp [h]
theorem ite_ok {G : Hp} {l : Addr} {xs : List V} {ds : List PyData} (hs : SqL K G l xs) (ha : DqAll K G xs ds) : ItOk K G (Ite K l) (enumD ds) where
  go := fun i H e hi => by
    rw [enumD_len] at hi
    have h1 : i < xs.length := by rw [ha.length]; exact hi
    exact ⟨xs, xs[i], e.seq hs, List.getElem?_eq_getElem h1⟩
  stop := fun i H e hi => by
    rw [enumD_len] at hi
    exact ⟨xs, e.seq hs, by rw [ha.length]; exact hi⟩
  yld := fun i H x H' G2 e1 e2 y hi => by
    obtain ⟨T, x1, rfl, nT, rfl, h1⟩ := y
    obtain ⟨d, q1, q2⟩ := ha.get (h1 xs ((e1.trans e2).seq hs))
    have hn : Same G2 (upd G2 T (.tup [.int (i : Nat), x1])) := same_upd (none_of_same e2 nT)
    exact ⟨_, upd G2 T (.tup [.int (i : Nat), x1]), enumD_get q1, .new nT, .tup (SqT.of upd_same) (.cons (.int _) (.cons ((q2.mono e1).mono hn) .nil))⟩
def iEn (a : SA) : SI := fun ρ M => (a ρ M).bind fun x => match x.1 with
  | [.dat (.list ds)] => some (enumD ds, x.2)
  | _ => none
theorem ei_en {ta : TA} {a : SA} (ha : EvA K ta a) : EvI K (iEnum K ta) (iEn a) := by
  intro ρ M z M' h F π G H σ R S Q q
  unfold iEn at h
  obtain ⟨⟨x, N1⟩, h1, hh⟩ := Option.bind_eq_some_iff.mp h
  clear h
  dsimp only at hh
  split at hh
  · rename_i ds
    cases hh
    refine ha ρ M _ _ h1 F π G H σ R S _ fun π1 G1 H1 v1 g1 R1 s1 => ?_
    cases s1 with
    | cons s1 s2 =>
      cases s2
      cases s1 with
      | dat d =>
        cases d with
        | lst hs hd => exact ⟨_, _, rfl, R1.ex.seq hs, q π1 G1 H1 _ g1 R1 (ite_ok hs hd)⟩
  · cases hh
/-! targets -/
inductive Pat where
  | nm (i : Nat)
  | tp (ps : List Pat)
mutual
def setPat : Pat → PyData → Rho → Option Rho
  | .nm i, d, ρ => some (ρ.set i (some (.dat d)))
  | .tp ps, .tuple ds, ρ => setPats ps ds ρ
  | .tp _, _, _ => none
def setPats : List Pat → List PyData → Rho → Option Rho
  | [], [], ρ => some ρ
  | p :: ps, d :: ds, ρ => (setPat p d ρ).bind fun ρ' => setPats ps ds ρ'
  | _, _, _ => none
end
mutual
def gPat (K : PySem.W.Frag) : Pat → TG
  | .nm i => gName i
  | .tp ps => gTup K ps.length (gPats K ps)
def gPats (K : PySem.W.Frag) : List Pat → TGs
  | [] => gNil
  | p :: ps => gCons (gPat K p) (gPats K ps)
end
mutual
theorem pat_ok : ∀ (p : Pat) {d : PyData} {v : V} {ρ ρ' : Rho} {π : List Addr} {G H : Hp} {σ : L2.St} {Q : L2.St → Hp → Prop}, setPat p d ρ = some ρ' → Dq K G v d → Same G H → Slots K π G ρ σ → (∀ σ', Slots K π G ρ' σ' → Q σ' H) → gPat K p v σ H Q
  | .nm i, d, v, ρ, ρ', π, G, H, σ, Q, h, hd, _, S, q => by
    cases h
    exact q _ (S.set (.dat hd) i)
  | .tp ps, d, v, ρ, ρ', π, G, H, σ, Q, h, hd, sm, S, q => by
    cases d with
    | tuple ds =>
      cases hd with
      | tup hs ha =>
        have hl : ds.length = ps.length := pats_len ps (by simpa [setPat] using h)
        exact ⟨_, _, rfl, same_sqT sm hs, by rw [ha.length, hl], pats_ok ps (by simpa [setPat] using h) ha sm S q⟩
    | _ => simp [setPat] at h
theorem pats_len : ∀ (ps : List Pat) {ds : List PyData} {ρ ρ' : Rho}, setPats ps ds ρ = some ρ' → ds.length = ps.length
  | [], [], _, _, _ => rfl
  | [], _ :: _, _, _, h => by simp [setPats] at h
  | _ :: _, [], _, _, h => by simp [setPats] at h
  | p :: ps, d :: ds, ρ, ρ', h => by
    rw [setPats] at h
    obtain ⟨ρ1, _, h2⟩ := Option.bind_eq_some_iff.mp h
    rw [List.length_cons, List.length_cons, pats_len ps h2]
theorem pats_ok : ∀ (ps : List Pat) {ds : List PyData} {vs : List V} {ρ ρ' : Rho} {π : List Addr} {G H : Hp} {σ : L2.St} {Q : L2.St → Hp → Prop}, setPats ps ds ρ = some ρ' → DqAll K G vs ds → Same G H → Slots K π G ρ σ → (∀ σ', Slots K π G ρ' σ' → Q σ' H) → gPats K ps vs σ H Q
  | [], [], _, _, _, _, _, _, _, _, h, .nil, _, S, q => by
    simp only [setPats, Option.some.injEq] at h
    subst h
    exact ⟨rfl, q _ S⟩
  | [], _ :: _, _, _, _, _, _, _, _, _, h, _, _, _, _ => by simp [setPats] at h
  | _ :: _, [], _, _, _, _, _, _, _, _, h, _, _, _, _ => by simp [setPats] at h
  | p :: ps, d :: ds, _, ρ, ρ', π, G, H, σ, Q, h, .cons hd r, sm, S, q => by
    rw [setPats] at h
    obtain ⟨ρ1, h1, h2⟩ := Option.bind_eq_some_iff.mp h
    exact ⟨_, _, rfl, pat_ok p h1 hd sm S fun σ' S' => pats_ok ps h2 r sm S' q⟩
end
def gPt (p : Pat) : SG := fun r ρ M => match r with
  | .dat d => (setPat p d ρ).bind fun ρ' => some (ρ', M)
  | _ => none
theorem eg_pat {p : Pat} : EvG K (gPat K p) (gPt p) := by
  intro r ρ M ρ' M' h F π G H v σ R S s Q q
  unfold gPt at h
  cases s with
  | cel _ => cases h
  | dat hd =>
    dsimp only at h
    obtain ⟨ρ1, h1, h2⟩ := Option.bind_eq_some_iff.mp h
    cases h2
    exact pat_ok p h1 hd R.ex S fun σ' S' => q π G H σ' Gr.refl R S'
mutual
def patIs : Pat → List Nat
  | .nm i => [i]
  | .tp ps => patsIs ps
def patsIs : List Pat → List Nat
  | [] => []
  | p :: ps => patIs p ++ patsIs ps
end
mutual
theorem pat_mono : ∀ (p : Pat) {x : V} {σ : L2.St} {H : Hp} {Q Q' : L2.St → Hp → Prop}, (∀ σ H, Q σ H → Q' σ H) → gPat K p x σ H Q → gPat K p x σ H Q'
  | .nm i, x, σ, H, Q, Q', h, q => h _ _ q
  | .tp ps, x, σ, H, Q, Q', h, q => by
    obtain ⟨a, xs, e1, e2, e3, q⟩ := q
    exact ⟨a, xs, e1, e2, e3, pats_mono ps h q⟩
theorem pats_mono : ∀ (ps : List Pat) {xs : List V} {σ : L2.St} {H : Hp} {Q Q' : L2.St → Hp → Prop}, (∀ σ H, Q σ H → Q' σ H) → gPats K ps xs σ H Q → gPats K ps xs σ H Q'
  | [], xs, σ, H, Q, Q', h, q => ⟨q.1, h _ _ q.2⟩
  | p :: ps, xs, σ, H, Q, Q', h, q => by
    obtain ⟨x, r, e, q⟩ := q
    exact ⟨x, r, e, pat_mono p (fun σ H q => pats_mono ps h q) q⟩
end
mutual
theorem gw_pat1 : ∀ (p : Pat) {vs : List Nat}, (∀ i ∈ patIs p, i ∈ vs) → ∀ x σ H Q, gPat K p x σ H Q → gPat K p x σ H fun σ2 H2 => wipe σ2 vs = wipe σ vs ∧ Q σ2 H2
  | .nm i, vs, h, x, σ, H, Q, q => ⟨wipe_set (h i (by simp [patIs])), q⟩
  | .tp ps, vs, h, x, σ, H, Q, q => by
    obtain ⟨a, xs, e1, e2, e3, q⟩ := q
    exact ⟨a, xs, e1, e2, e3, gw_pats1 ps (fun i hi => h i (by simpa [patIs] using hi)) xs σ H Q q⟩
theorem gw_pats1 : ∀ (ps : List Pat) {vs : List Nat}, (∀ i ∈ patsIs ps, i ∈ vs) → ∀ xs σ H Q, gPats K ps xs σ H Q → gPats K ps xs σ H fun σ2 H2 => wipe σ2 vs = wipe σ vs ∧ Q σ2 H2
  | [], vs, h, xs, σ, H, Q, q => by
    obtain ⟨e, q⟩ := q
    exact ⟨e, rfl, q⟩
  | p :: ps, vs, h, xs, σ, H, Q, q => by
    obtain ⟨x, r, e, q⟩ := q
    refine ⟨x, r, e, ?_⟩
    have h1 := gw_pat1 p (vs := vs) (fun i hi => h i (by simp [patsIs, hi])) x σ H _ q
    refine pat_mono p (fun σ2 H2 ⟨e2, q2⟩ => ?_) h1
    refine pats_mono ps (fun σ3 H3 ⟨e3, q3⟩ => ⟨e3.trans e2, q3⟩) (gw_pats1 ps (vs := vs) (fun i hi => h i (by simp [patsIs, hi])) r σ2 H2 Q q2)
end
theorem gw_pat {p : Pat} {vs : List Nat} (h : ∀ i ∈ patIs p, i ∈ vs) : GW (gPat K p) vs := gw_pat1 p h
end
end Sm

/-! SmX5: x in a tuple or list of data of any depth -/
namespace Sm
open PySem PySem.Spec PyProof.Rows L2
section
variable {K : PySem.W.Frag}
def dInT (neg : Bool) : PyData → PyData → Option PyData
  | d, .tuple ds => if (SeqAt.shaped d && SeqAt.shaped (.tuple ds)) = true then some (.bool (if neg then !inD d ds else inD d ds)) else none
  | d, .list ds => if (SeqAt.shaped d && SeqAt.shaped (.list ds)) = true then some (.bool (if neg then !inD d ds else inD d ds)) else none
  | _, _ => none
def rInT (K : PySem.W.Frag) (neg : Bool) : R2 := fun x y H Q => ∃ d ds, Dp K H x d ∧ SeqAt.shaped d = true ∧ ((Dp K H y (.tuple ds) ∧ SeqAt.shaped (.tuple ds) = true) ∨ (Dp K H y (.list ds) ∧ SeqAt.shaped (.list ds) = true)) ∧ Q (.bl (if neg then !inD d ds else inD d ds)) H
theorem room65 {X : Cx} {k : Nat} (hr : Room k X.A) : X.A.units + 65 < cLine := by have := hr.un; omega
theorem op_inT {X : Cx} (hu : X.A.units + 65 < cLine) : OpR X (compareOp .In) (rInT X.K false) := by
  intro pins s σ H x y v u Q I rx ry h
  obtain ⟨d, ds, hd, sd, he, q⟩ := h
  obtain ⟨as, r1⟩ := Dp.reads I d x v hd rx
  rcases he with ⟨he, se⟩ | ⟨he, se⟩
  · obtain ⟨bs, r2⟩ := Dp.reads I (.tuple ds) y u he ry
    exact SeqAt.in_tuple_reads r2 r1 (SeqAt.canLay_of_shaped se) (SeqAt.canLay_of_shaped sd) (room_in_shaped sd hu) ⟨.bl _, H, I, rfl, q⟩
  · obtain ⟨bs, r2⟩ := Dp.reads I (.list ds) y u he ry
    exact SeqAt.in_list_reads r2 r1 (SeqAt.canLay_of_shaped se) (SeqAt.canLay_of_shaped sd) (room_in_shaped sd hu) ⟨.bl _, H, I, rfl, q⟩
theorem op_notInT {X : Cx} (hu : X.A.units + 65 < cLine) : OpR X (compareOp .NotIn) (rInT X.K true) := by
  intro pins s σ H x y v u Q I rx ry h
  obtain ⟨d, ds, hd, sd, he, q⟩ := h
  obtain ⟨as, r1⟩ := Dp.reads I d x v hd rx
  rcases he with ⟨he, se⟩ | ⟨he, se⟩
  · obtain ⟨bs, r2⟩ := Dp.reads I (.tuple ds) y u he ry
    exact SeqAt.notIn_tuple_reads r2 r1 (SeqAt.canLay_of_shaped se) (SeqAt.canLay_of_shaped sd) (room_in_shaped sd hu) ⟨.bl _, H, I, rfl, q⟩
  · obtain ⟨bs, r2⟩ := Dp.reads I (.list ds) y u he ry
    exact SeqAt.notIn_list_reads r2 r1 (SeqAt.canLay_of_shaped se) (SeqAt.canLay_of_shaped sd) (room_in_shaped sd hu) ⟨.bl _, H, I, rfl, q⟩
theorem os_inT {neg : Bool} : OpS K (rInT K neg) (lift2 (dInT neg)) := os_lift (by
  intro x y z e G H v w sm dx dy Q q
  unfold dInT at e
  split at e
  · split at e
    · rename_i hh
      rw [Bool.and_eq_true] at hh
      cases e
      exact ⟨x, _, Dq.dp sm x v (SeqAt.canLay_of_shaped hh.1) dx, hh.1, .inl ⟨Dq.dp sm _ w (SeqAt.canLay_of_shaped hh.2) dy, hh.2⟩, q G H _ .same (.bl _)⟩
    · cases e
  · split at e
    · rename_i hh
      rw [Bool.and_eq_true] at hh
      cases e
      exact ⟨x, _, Dq.dp sm x v (SeqAt.canLay_of_shaped hh.1) dx, hh.1, .inr ⟨Dq.dp sm _ w (SeqAt.canLay_of_shaped hh.2) dy, hh.2⟩, q G H _ .same (.bl _)⟩
    · cases e
  · cases e)
end
end Sm

/-! SmX6: a dict is no text -/
namespace PySem.SeqAt
open AutoSeq1 (wpAny_loadPart')
open MeetsSeq
theorem dict_ne_declines_str (l : Addr) (es : Array DictEntry) (n : Nat) (dd : Option Addr) (sl : Array (Option Value)) (b : Str) (u : Tok) :
    Meets (Builtin.«dict.__ne__» ⟨[.ref l, .str b u], []⟩) (fun _ R s => s.heap.get? l = some { cls := .type "dict", dict := dd, data := .dict es n, slots := sl } ∧ R (.ok (.ret .notImplemented)) s) :=
  .of_wp fun prog w A R s h => by obtain ⟨hp, g, d, tk, os⟩ := s; obtain ⟨hl, h⟩ := h; have f1 := F.sub_str_dict; wp_walk using wpAny_loadPart' hl; exact ⟨_, rfl, h⟩
theorem str_ne_declines_dict (b : Str) (u : Tok) (l : Addr) (c : Value) (es : Array DictEntry) (n : Nat) (dd : Option Addr) (sl : Array (Option Value)) :
    Meets (Builtin.«str.__ne__» ⟨[.str b u, .ref l], []⟩) (fun _ R s => s.heap.get? l = some { cls := c, dict := dd, data := .dict es n, slots := sl } ∧ R (.ok (.ret .notImplemented)) s) :=
  .of_wp fun prog w A R s h => by obtain ⟨hp, g, d, tk, os⟩ := s; obtain ⟨hl, h⟩ := h; wp_walk using wpAny_loadPart' hl, wpAny_load hl; exact ⟨_, rfl, h⟩
theorem RcNeAt.dict_str {A : Around} {s : Shared} {l : Addr} {o : Obj} {es : Array DictEntry} {n : Nat} (b : Str) (u : Tok) (ho : s.heap.get? l = some o) (hc : o.cls = .type "dict") (hd : o.data = .dict es n) (hu : A.units < cLine) : RcNeAt A s (.ref l) (.str b u) true := fun prog w E Q h => by
  obtain ⟨cls, dd, data, sl⟩ := o
  simp only at hc hd
  subst hc hd
  exact rc_ne_decline_or (k := false) ⟨_, ho, rfl⟩ (typeIs_str s b u) (by decide) F.sub_str_dict F.slot_dict_ne F.slot_str_ne_refl
    (fun _ hq => call_meets F.slot_dict_ne ⟨_, ho, rfl⟩ F.entry_dict_ne (F.args_dict_ne_2 _ _) (dict_ne_declines_str l es n dd sl b u) ⟨ho, hq⟩)
    (fun _ hq => call_meets F.slot_str_ne_refl (typeIs_str s b u) F.entry_str_ne (F.args_str_ne_2 _ _) (str_ne_declines_dict b u l (.type "dict") es n dd sl) ⟨ho, hq⟩)
    (fun _ hq => wpAny_of_eq (rfl : isSame (.ref l) (.str b u) = pure false) hq) (.inr hu) h
end PySem.SeqAt
namespace Sm
open PySem PySem.Spec PyProof.Rows L2
section
variable {K : PySem.W.Frag}
def dNeX : PyData → PyData → Option PyData
  | .dict _, .str _ => some (.bool true)
  | d, e => dNe d e
def rNeX (K : PySem.W.Frag) : R2 := fun x y H Q => (∃ ds z, Dq K H x (.dict ds) ∧ y = .str z ∧ Q (.bl true) H) ∨ rNeA K x y H Q
theorem op_neX {X : Cx} (hu : X.A.units + 64 < cLine) : OpR X (compareOp .NotEq) (rNeX X.K) := OpR.or (by
  intro pins s σ H x y v u Q I rx ry h
  obtain ⟨ds, z, hd, rfl, q⟩ := h
  obtain ⟨as, r1, _⟩ := Dq.reads I (.dict ds) x v hd rx
  obtain ⟨bs, r2, _⟩ := Dq.reads I (.str z) (.str z) u (.str z) ry
  cases r2
  cases r1 with
  | dict h1 h2 h3 h4 h5 =>
    refine SeqAt.RcNeAt.dict_str (A := X.A) _ _ h1 h2 h3 (by omega) X.prog X.w _ _ ?_
    exact ⟨.bl _, H, I, rfl, q⟩) (op_neA hu)
theorem os_neX : OpS K (rNeX K) (lift2 dNeX) := by
  intro M x y z e F π G H v w R sx sy Q q
  by_cases hd : ∃ ds t, x = .dat (.dict ds) ∧ y = .dat (.str t)
  · obtain ⟨ds, t, rfl, rfl⟩ := hd
    cases sx with
    | dat dx =>
      cases sy with
      | dat dy =>
        cases dy
        cases e
        exact .inl ⟨ds, t, dx.mono R.ex, rfl, q G H _ .same (.dat (.bl _))⟩
  · have e2 : lift2 dNe M x y = some z := by
      rw [← e]
      cases x with
      | cel _ => rfl
      | dat dx =>
        cases y with
        | cel _ => rfl
        | dat dy =>
          simp only [lift2]
          congr 1
          unfold dNeX
          split
          · rename_i ds t
            exact absurd ⟨ds, t, rfl, rfl⟩ hd
          · rfl
    exact .inr (os_ne M x y z e2 F π G H v w R sx sy Q q)
theorem neX_of {M : Mem} {d e : PyData} {r : Option SV} (h : lift2 dNe M (.dat d) (.dat e) = r) (hd : ∀ ds, d ≠ .dict ds) : lift2 dNeX M (.dat d) (.dat e) = r := by
  rw [← h]
  simp only [lift2]
  congr 1
  unfold dNeX
  split
  · exact absurd rfl (hd _)
  · rfl
end
end Sm

/-! SmX7: loops over zip(a, b), of lists and tuples in any mix. -/
namespace Sm
open PySem PySem.Spec PyProof.Rows L2
def SqB (K : PySem.W.Frag) : Bool → Hp → Addr → List V → Prop
  | true, H, a, xs => SqL K H a xs
  | false, H, a, xs => SqT K H a xs
def itB : Bool → Heap → Addr → Addr → Nat → Prop
  | true, h, it, a, i => h.IsListIter it a i
  | false, h, it, a, i => h.IsTupleIter it a i
def isB : Bool → Heap → Addr → Array Value → Prop
  | true, h, a, xs => h.IsList a xs
  | false, h, a, xs => h.IsTuple a xs
theorem itB.at {k : Bool} {h h' : Heap} {it a : Addr} {i : Nat} (p : itB k h it a i) (q : ∀ o, h.get? it = some o → h'.get? it = some o) : itB k h' it a i := by
  cases k
  · exact Heap.IsTupleIter.at p q
  · exact Heap.IsListIter.at p q
theorem itB.obj {k : Bool} {h : Heap} {it a : Addr} {i : Nat} (p : itB k h it a i) : ∃ o, h.get? it = some o ∧ ∀ v, o.data ≠ .cell v := by
  cases k
  · obtain ⟨o, e, _, d⟩ := p
    exact ⟨o, e, fun v q => by rw [d] at q; cases q⟩
  · obtain ⟨o, e, _, d⟩ := p
    exact ⟨o, e, fun v q => by rw [d] at q; cases q⟩
section
variable {X : Cx} {pins : List (Addr × Obj)} {σ : List (Option V)} {H : Hp} {s : Shared} {a : Addr} {xs ys : List V}
theorem sqB_inj {k : Bool} (I : Inv X pins σ H s) (h1 : SqB X.K k H a xs) (h2 : SqB X.K k H a ys) : xs = ys := by
  cases k
  · exact I.tuple_inj h1 h2
  · exact I.list_inj h1 h2
theorem seqB {k : Bool} (I : Inv X pins σ H s) (h : SqB X.K k H a xs) :
    ∃ (its : List Value) (o : Obj) (Hh : Heap → Prop), Vals xs its ∧ Begins (.ref a) o Hh ∧ Hh s.heap ∧ a < s.heap.objs.size ∧ isB k s.heap a its.toArray ∧ (∀ it h', h'.get? it = some o → itB k h' it a 0) ∧ ∀ (A : Around) (it : Addr), A.handled = none → a ≠ it → Draws X.prog X.w A it [it, a] its.length (fun i v => its[i]? = some v) (fun i h => itB k h it a i ∧ isB k h a its.toArray) := by
  cases k
  · obtain ⟨its, rv, pl, _⟩ := I.tuple h
    have hl : Heap.IsTuple s.heap a its.toArray := pl
    refine ⟨its, _, _, rv, begins_tuple a its.toArray, hl, pl.lt, hl, fun it h' e => ⟨_, e, rfl, rfl⟩, fun A it hh hne => ?_⟩
    have := Draws.tuple (prog := X.prog) (w := X.w) hh it a hne its.toArray
    have q : Draws X.prog X.w A it [it, a] its.length (fun i v => its[i]? = some v) (fun i h => h.IsTupleIter it a i ∧ h.IsTuple a its.toArray) := by simpa using this
    exact q
  · obtain ⟨its, rv, pl, _⟩ := I.list h
    refine ⟨its, _, _, rv, begins_list a its.toArray, pl.isList, pl.lt, pl.isList, fun it h' e => ⟨_, e, rfl, rfl⟩, fun A it hh hne => ?_⟩
    have := Draws.list (prog := X.prog) (w := X.w) hh it a hne its.toArray
    have q : Draws X.prog X.w A it [it, a] its.length (fun i v => its[i]? = some v) (fun i h => h.IsListIter it a i ∧ h.IsList a its.toArray) := by simpa using this
    exact q
end
/-- two of so many things, each a list or a tuple, the items in new pairs -/
def ItzM (K : PySem.W.Frag) (ka kb : Bool) (n1 n2 : Nat) (a b : Addr) : It :=
  ⟨fun i H => ∃ (xs ys : List V) (x y : V), SqB K ka H a xs ∧ SqB K kb H b ys ∧ xs.length = n1 ∧ ys.length = n2 ∧ xs[i]? = some x ∧ ys[i]? = some y,
    fun i H v H' => ∃ T x y, v = .ref T ∧ H T = none ∧ H' = upd H T (.tup [x, y]) ∧ (∀ xs, SqB K ka H a xs → xs[i]? = some x) ∧ ∀ ys, SqB K kb H b ys → ys[i]? = some y,
    fun i H => ∃ xs ys : List V, SqB K ka H a xs ∧ SqB K kb H b ys ∧ xs.length = n1 ∧ ys.length = n2 ∧ (n1 ≤ i ∨ n2 ≤ i)⟩
theorem turn_zipM {P : Program} {w : World} {K : PySem.W.Frag} {elts : List Expr} {kk : Nat} {tpos : Pos} {a b z TI TO i1 i2 : Addr} {ka kb : Bool} {n1 n2 : Nat} (D : ZipApart z TI TO i1 i2 a b) :
    Turn P w K (.Tuple elts kk tpos) (ItzM K ka kb n1 n2 a b) [z, TI, TO, i1, i2] z (fun i h => IsZip h z TI TO .none ∧ IsPair h TI (.ref i1) (.ref i2) ∧ (∃ x y, IsPair h TO x y) ∧ itB ka h i1 a i ∧ itB kb h i2 b i ∧ i ≤ n1 ∧ i ≤ n2) where
  mem := by simp
  obj := fun i h st c hc => by
    obtain ⟨hz, hTI, ⟨x, y, hTO⟩, h1, h2, _, _⟩ := st
    have e' : c = z ∨ c = TI ∨ c = TO ∨ c = i1 ∨ c = i2 := by simpa using hc
    rcases e' with q | q | q | q | q
    · rw [q]; exact ⟨_, hz, fun v q => nomatch q⟩
    · rw [q]; exact ⟨_, hTI, fun v q => nomatch q⟩
    · rw [q]; exact ⟨_, hTO, fun v q => nomatch q⟩
    · rw [q]; exact itB.obj h1
    · rw [q]; exact itB.obj h2
  keep := fun i h h' st k => by
    obtain ⟨hz, hTI, ⟨x, y, hTO⟩, h1, h2, l1, l2⟩ := st
    exact ⟨k z (by simp) _ hz, k TI (by simp) _ hTI, ⟨x, y, k TO (by simp) _ hTO⟩, h1.at fun o q => k i1 (by simp) o q, h2.at fun o q => k i2 (by simp) o q, l1, l2⟩
  item := by
    intro X hP hw hK hc i pins s σ H E I hf st hg
    subst hP hw hK
    obtain ⟨hz, hTI, ⟨x0, y0, hTO⟩, h1, h2, le1, le2⟩ := st
    obtain ⟨xs, ys, x, y, hqx, hqy, hn1, hn2, hx, hy⟩ := hg
    obtain ⟨its, o1, Hh1, rv, B1, _, lt1, p1, _, dr1⟩ := seqB I hqx
    obtain ⟨its2, o2, Hh2, rv2, B2, _, lt2, p2, _, dr2⟩ := seqB I hqy
    obtain ⟨u, hu, ru⟩ := rv.get hx
    obtain ⟨u2, hu2, ru2⟩ := rv2.get hy
    have hzl : z < s.heap.objs.size := Heap.lt_size hz
    have hh := I.ok.hd hc
    have S : ZipSep2 z TI TO i1 i2 [i1, a] [i2, b] :=
      { TIz := D.TIz, TOz := D.TOz, TITO := D.TITO, TIi1 := D.TIi1, mem1 := by simp, zf1 := by simp [D.i1z.symm, D.l1z.symm], Tf1 := by simp [D.TOi1, D.l1TO.symm], TIi2 := D.TIi2, mem2 := by simp, zf2 := by simp [D.i2z.symm, D.l2z.symm], Tf2 := by simp [D.TOi2, D.l2TO.symm], sep1_2 := by simp [D.i12, D.l2i1.symm], sep2_1 := by simp [D.i12.symm, D.l1i2.symm] }
    have lx : i < its.length := (List.getElem?_eq_some_iff.mp hu).1
    have ly : i < its2.length := (List.getElem?_eq_some_iff.mp hu2).1
    refine wpAny_pyNext_zipD2_item S (dr1 _ i1 hh D.l1i1) (dr2 _ i2 hh D.l2i2) hz hTI hTO ⟨h1, p1⟩ ⟨h2, p2⟩ lx ly fun x1 x2 h' tk y1 y2 z' TO' t1 t2 hT hsz hk => ?_
    rw [hu] at y1
    rw [hu2] at y2
    cases y1
    cases y2
    refine ⟨_, rfl, wpAny_letOwnedTupleGo_zip (s := { s with heap := h', toks := tk }) z' fun h'' z'' sb => ?_⟩
    have hT2 : h''.get? s.heap.objs.size = some { cls := .type "tuple", data := .seq #[u, u2] } := (sb.2 _ (Nat.ne_of_gt hzl)).trans hT
    have new : ObjOk X.prog X.w (upd H s.heap.objs.size (.tup [x, y])) h'' s.heap.objs.size (.tup [x, y]) :=
      ⟨by show 2 ≤ sizeLine; decide, [u, u2], .cons ru (.cons ru2 .nil), ⟨_, hT2, rfl, _, rfl⟩⟩
    have I1 : Inv X pins σ (upd H s.heap.objs.size (.tup [x, y])) { s with heap := h'', toks := tk } :=
      I.turnedNew (t' := tk) (ch := [z, TI, TO, i1, i2]) (fun c o hb q => (sb.2 c (fun q' => hb (by simp [q']))).trans (hk c o (fun q' => hb (by simp [q'])) (fun q' => hb (by simp [q'])) (fun q' => hb (by simp [q'])) (fun q' => hb (by simp [q'])) q)) hf (Nat.le_refl _) new
    refine ⟨.ref s.heap.objs.size, _, I1, rfl, ⟨_, x, y, rfl, I.hok.fresh (Nat.le_refl _), rfl, fun l hl => by rw [sqB_inj I hl hqx]; exact hx, fun l hl => by rw [sqB_inj I hl hqy]; exact hy⟩, ⟨z'', ?_, ⟨u, u2, ?_⟩, ?_, ?_, ?_, ?_⟩, fun c hcm => ?_⟩
    · exact (sb.2 _ D.TIz).trans (hk _ _ D.TIz D.TITO D.TIi1 D.TIi2 hTI)
    · exact (sb.2 _ D.TOz).trans TO'
    · exact t1.1.at fun o q => (sb.2 _ D.i1z).trans q
    · exact t2.1.at fun o q => (sb.2 _ D.i2z).trans q
    · have := rv.length; omega
    · have := rv2.length; omega
    · have hlt : c < s.heap.objs.size := by
        have e' : c = z ∨ c = TI ∨ c = TO ∨ c = i1 ∨ c = i2 := by simpa using hcm
        rcases e' with q | q | q | q | q
        · rw [q]; exact hzl
        · rw [q]; exact Heap.lt_size hTI
        · rw [q]; exact Heap.lt_size hTO
        · rw [q]; obtain ⟨_, e1, _⟩ := itB.obj h1; exact Heap.lt_size e1
        · rw [q]; obtain ⟨_, e2, _⟩ := itB.obj h2; exact Heap.lt_size e2
      rw [upd_ne (Nat.ne_of_lt hlt)]
      exact (hf c hcm).1
  done := by
    intro X hP hw hK hc i pins s σ H E I hf st hg
    subst hP hw hK
    obtain ⟨hz, hTI, ⟨x0, y0, hTO⟩, h1, h2, le1, le2⟩ := st
    obtain ⟨xs, ys, hqx, hqy, hn1, hn2, hend⟩ := hg
    obtain ⟨its, o1, Hh1, rv, B1, _, lt1, p1, _, dr1⟩ := seqB I hqx
    obtain ⟨its2, o2, Hh2, rv2, B2, _, lt2, p2, _, dr2⟩ := seqB I hqy
    have l1 := rv.length
    have l2 := rv2.length
    have hh := I.ok.hd hc
    have S : ZipSep2 z TI TO i1 i2 [i1, a] [i2, b] :=
      { TIz := D.TIz, TOz := D.TOz, TITO := D.TITO, TIi1 := D.TIi1, mem1 := by simp, zf1 := by simp [D.i1z.symm, D.l1z.symm], Tf1 := by simp [D.TOi1, D.l1TO.symm], TIi2 := D.TIi2, mem2 := by simp, zf2 := by simp [D.i2z.symm, D.l2z.symm], Tf2 := by simp [D.TOi2, D.l2TO.symm], sep1_2 := by simp [D.i12, D.l2i1.symm], sep2_1 := by simp [D.i12.symm, D.l1i2.symm] }
    exact wpAny_pyNext_zipD2_end S (dr1 _ i1 hh D.l1i1) (dr2 _ i2 hh D.l2i2) hz hTI hTO ⟨h1, p1⟩ ⟨h2, p2⟩ (by omega) (by omega) (by omega) fun h' tk hk => ⟨rfl, I.turnedL (t' := tk) (ch := [z, TI, TO, i1, i2]) (fun c o hb q =>
      hk c o (fun q' => hb (by simp [q'])) (fun q' => hb (by simp [q'])) (fun q' => hb (by simp [q'])) (fun q' => hb (by simp [q'])) q) hf⟩
  self := fun A i s Q E st h => wpAny_pyIter_zip st.1 h
def iZipM (K : PySem.W.Frag) (ta : TA) : TI := fun σ H R => ta σ H fun vs H1 => ∃ a b ka kb xs ys, vs = [.ref a, .ref b] ∧ SqB K ka H1 a xs ∧ SqB K kb H1 b ys ∧ R (ItzM K ka kb xs.length ys.length a b) H1
theorem pi_zipM {X : Cx} {e e2 : Expr} {ta : TA} {p pos tpos : Pos} {elts : List Expr} {kk : Nat} (hg : Gl X "zip") (hm : X.mg "zip" = none) (ha : PA X [e, e2] ta)
    (hs : starEach [e, e2] X.env = (false, eval e X.env) :: starEach [e2] X.env := by rfl) (hpl : (backTo pos (starEach [e2] X.env)).any (·.1) = false := by rfl) :
    PI X (.Tuple elts kk tpos) (.Call (.Name "zip" p) [e, e2] [] pos) (iZipM X.K ta) := by
  refine ⟨fun pins s σ H R I h => ?_⟩
  refine Call_ (ld_blt I hg hm PyProof.Rows.boot_zip (PyProof.Rows.callWith_type1 (thn (ha.run pos pins s σ H _ I h) fun us s1 ⟨vs, H1, I1, r1, q1⟩ => ?_) hs hpl))
  obtain ⟨a, b, ka, kb, xs, ys, ex, hqx, hqy, q⟩ := q1
  subst ex
  cases r1 with
  | cons r rr =>
    cases rr with
    | cons r' rr =>
      cases rr
      cases r
      cases r'
      have fresh5 : ∀ c, c ∈ [s1.heap.objs.size + 4, s1.heap.objs.size + 2, s1.heap.objs.size + 3, s1.heap.objs.size, s1.heap.objs.size + 1] → FpOk X pins H1 c := fun c hcm => by
        have e' : c = s1.heap.objs.size + 4 ∨ c = s1.heap.objs.size + 2 ∨ c = s1.heap.objs.size + 3 ∨ c = s1.heap.objs.size ∨ c = s1.heap.objs.size + 1 := by simpa using hcm
        have hle : s1.heap.objs.size ≤ c := by
          rcases e' with z | z | z | z | z
          · rw [z]; exact Nat.le_add_right _ _
          · rw [z]; exact Nat.le_add_right _ _
          · rw [z]; exact Nat.le_add_right _ _
          · rw [z]; exact Nat.le_refl _
          · rw [z]; exact Nat.le_add_right _ _
        exact I1.fpOk hle (I1.hok.fresh hle)
      obtain ⟨its, o1, Hh1, rv, B1, hb1, lt1, p1, n1, _⟩ := seqB I1 hqx
      obtain ⟨its2, o2, Hh2, rv2, B2, hb2, lt2, p2, n2, _⟩ := seqB I1 hqy
      refine zip_begins2 B1 B2 hb1 hb2 fun h' hz hTI hTO g1 g2 hsz hk => wpAny_pyIter_zip hz ?_
      have I2 : Inv X pins σ H1 { s1 with heap := h' } := I1.kept (t' := s1.toks) hk
      exact ⟨s1.heap.objs.size + 4, [s1.heap.objs.size + 4, s1.heap.objs.size + 2, s1.heap.objs.size + 3, s1.heap.objs.size, s1.heap.objs.size + 1], _, _, H1, rfl, I2, turn_zipM (PySem.W.ktu_apart s1.heap.objs.size a b lt1 lt2), ⟨hz, hTI, ⟨_, _, hTO⟩, n1 _ _ g1, n2 _ _ g2, Nat.zero_le _, Nat.zero_le _⟩, fresh5, q⟩
section
variable {K : PySem.W.Frag}
theorem sqB_mono {k : Bool} {G H : Hp} {a : Addr} {xs : List V} (e : Same G H) (h : SqB K k G a xs) : SqB K k H a xs := by
  cases k
  · exact same_sqT e h
  · exact e.seq h
theorem itzM_ok {G : Hp} {l m : Addr} {xs ys : List V} {ds es : List PyData} {ka kb : Bool} (hs : SqB K ka G l xs) (ha : DqAll K G xs ds) (hs' : SqB K kb G m ys) (ha' : DqAll K G ys es) : ItOk K G (ItzM K ka kb xs.length ys.length l m) (zipD ds es) where
  go := fun i H e hi => by
    rw [zipD_len] at hi
    have h1 : i < xs.length := by rw [ha.length]; omega
    have h2 : i < ys.length := by rw [ha'.length]; omega
    exact ⟨xs, ys, xs[i], ys[i], sqB_mono e hs, sqB_mono e hs', rfl, rfl, List.getElem?_eq_getElem h1, List.getElem?_eq_getElem h2⟩
  stop := fun i H e hi => by
    rw [zipD_len] at hi
    refine ⟨xs, ys, sqB_mono e hs, sqB_mono e hs', rfl, rfl, ?_⟩
    rw [ha.length, ha'.length]; omega
  yld := fun i H x H' G2 e1 e2 y hi => by
    obtain ⟨T, x1, x2, rfl, nT, rfl, h1, h2⟩ := y
    obtain ⟨d, q1, q2⟩ := ha.get (h1 xs (sqB_mono (e1.trans e2) hs))
    obtain ⟨d', q3, q4⟩ := ha'.get (h2 ys (sqB_mono (e1.trans e2) hs'))
    have hn : Same G2 (upd G2 T (.tup [x1, x2])) := same_upd (none_of_same e2 nT)
    exact ⟨_, upd G2 T (.tup [x1, x2]), zipD_get q1 q3, .new nT, .tup (SqT.of upd_same) (.cons ((q2.mono e1).mono hn) (.cons ((q4.mono e1).mono hn) .nil))⟩
theorem seqB_of {G : Hp} {v : V} {d : PyData} {ds : List PyData} (h : Dq K G v d) (e : seqD d = some ds) : ∃ k a xs, v = .ref a ∧ SqB K k G a xs ∧ DqAll K G xs ds := by
  cases h with
  | lst hs ha => cases e; exact ⟨true, _, _, rfl, hs, ha⟩
  | tup hs ha => cases e; exact ⟨false, _, _, rfl, hs, ha⟩
  | _ => cases e
theorem ei_zp {ts : TA} {as : SA} (hs : EvA K ts as) : EvI K (iZipM K ts) (iZp as) := by
  intro ρ M z M' h F π G H σ R S Q q
  unfold iZp at h
  obtain ⟨⟨x, M1⟩, h1, h⟩ := Option.bind_eq_some_iff.mp h
  refine hs ρ M x M1 h1 F π G H σ R S _ fun π1 G1 H1 v1 g1 R1 s1 => ?_
  dsimp only at h
  split at h
  · rename_i d e
    obtain ⟨xs, e1, h⟩ := Option.bind_eq_some_iff.mp h
    obtain ⟨ys, e2, h⟩ := Option.bind_eq_some_iff.mp h
    cases h
    cases s1 with
    | cons s1 s2 =>
      cases s2 with
      | cons s2 s3 =>
        cases s3
        cases s1 with
        | dat hd =>
          cases s2 with
          | dat hd' =>
            obtain ⟨ka, a, vs, rfl, sa, da⟩ := seqB_of hd e1
            obtain ⟨kb, b, ws, rfl, sb, db⟩ := seqB_of hd' e2
            exact ⟨a, b, ka, kb, vs, ws, rfl, sqB_mono R1.ex sa, sqB_mono R1.ex sb, q π1 G1 H1 _ g1 R1 (itzM_ok sa da sb db)⟩
  · cases h
end
end Sm

/-! SmX8: sum of a tuple too; any of numbers and truths, in a list or a tuple. -/
namespace Sm
open PySem PySem.Spec PyProof.Rows L2
def dSumA : PyData → Option PyData
  | .list ds => (intsOf ds).bind fun bs => some (.int bs.sum)
  | .tuple ds => (intsOf ds).bind fun bs => some (.int bs.sum)
  | _ => none
def rSumA (K : PySem.W.Frag) : V → Hp → VK → Prop := fun x H Q => ∃ (a : Addr) (ns : List Int), x = .ref a ∧ SqA K H a (ns.map V.int) ∧ Q (.int ns.sum) H
theorem call_sumA {X : Cx} (hc : X.calm = true) : CallR X (.builtin "sum") (fun xs H Q => ∃ x, xs = [x] ∧ rSumA X.K x H Q) := by
  intro pins s σ H xs us Q I r h
  obtain ⟨x, rfl, a, ns, rfl, hs | hs, q⟩ := h
  · exact cr_sum hc pins s σ H _ us Q I r ⟨a, ns, rfl, hs, q⟩
  · obtain ⟨its, rv, hl, _⟩ := I.tuple hs
    rw [Vals.ref1 r]
    have hi := rv.ints
    have ht : s.heap.IsTuple a its.toArray := hl
    obtain ⟨xs, hx⟩ := hi.allInts.items
    have hn : numsOf its.toArray.toList = ns := by rw [show its.toArray.toList = its from rfl, hi.numsOf]
    rw [hx] at ht hn
    rw [nums_intItems] at hn
    refine PySem.W.ktm_sumG (I.ok.hd hc) ht fun h' tk t' hk => ?_
    rw [preSum_eq, List.take_of_length_le (by simp), hn]
    exact ⟨.int _, H, I.kept hk, ⟨_, rfl⟩, q⟩
def flagD : PyData → Option Bool
  | .int z => some (z != 0)
  | .bool b => some b
  | _ => none
def flagsOf : List PyData → Option (List Bool)
  | [] => some []
  | d :: ds => (flagD d).bind fun b => (flagsOf ds).bind fun bs => some (b :: bs)
def dAny : PyData → Option PyData
  | .list ds => (flagsOf ds).bind fun bs => some (.bool (bs.any id))
  | .tuple ds => (flagsOf ds).bind fun bs => some (.bool (bs.any id))
  | _ => none
inductive FlagV : V → Bool → Prop
  | int (z : Int) : FlagV (.int z) (z != 0)
  | bl (b : Bool) : FlagV (.bl b) b
inductive FlagsV : List V → List Bool → Prop
  | nil : FlagsV [] []
  | cons {x : V} {b : Bool} {xs : List V} {bs : List Bool} (h : FlagV x b) (r : FlagsV xs bs) : FlagsV (x :: xs) (b :: bs)
theorem FlagsV.len : ∀ {xs : List V} {bs : List Bool}, FlagsV xs bs → xs.length = bs.length
  | _, _, .nil => rfl
  | _, _, .cons _ r => by simp [r.len]
theorem FlagsV.at : ∀ {xs : List V} {bs : List Bool} {us : List Value} {i : Nat} {v : Value}, FlagsV xs bs → Vals xs us → us[i]? = some v → ∃ x b, FlagV x b ∧ RelV x v ∧ bs[i]? = some b
  | _, _, _, _, _, .nil, .nil, h => by simp at h
  | _, _, _, 0, _, .cons f _, .cons r _, h => by simp at h; subst h; exact ⟨_, _, f, r, rfl⟩
  | _, _, _, i + 1, _, .cons _ fs, .cons _ rs, h => by
    obtain ⟨x, b, h1, h2, h3⟩ := FlagsV.at fs rs (by simpa using h)
    exact ⟨x, b, h1, h2, by simpa using h3⟩
theorem truth_flags {prog : Program} {w : World} {A : Around} {xs : List V} {bs : List Bool} {its : List Value} (f : FlagsV xs bs) (r : Vals xs its) :
    TruthOf prog w A (fun i v => its.toArray[i]? = some v) (fun i => bs.getD i false) := fun i v s Q E hv hq => by
  have hv' : its[i]? = some v := by simpa using hv
  obtain ⟨x, b, h1, h2, h3⟩ := f.at r hv'
  have hg : bs.getD i false = b := by rw [List.getD_eq_getElem?_getD, h3] <;> rfl
  have hq' : Q (bs.getD i false) s := hq
  rw [hg] at hq'
  cases h1 with
  | int z =>
    obtain ⟨k, rfl⟩ := h2
    exact PyProof.Rows.truthy_int hq'
  | bl b =>
    cases h2
    exact wpAny_truthy_bool hq'
def rAny1 (K : PySem.W.Frag) : V → Hp → VK → Prop := fun x H Q => ∃ (a : Addr) (xs : List V) (bs : List Bool), x = .ref a ∧ SqA K H a xs ∧ FlagsV xs bs ∧ Q (.bl (bs.any id)) H
theorem call_any1 {X : Cx} (hc : X.calm = true) : CallR X (.builtin "any") (fun xs H Q => ∃ x, xs = [x] ∧ rAny1 X.K x H Q) := by
  intro pins s σ H xs us Q I r h
  obtain ⟨x, rfl, a, xs, bs, rfl, hs | hs, hf, q⟩ := h
  · obtain ⟨its, rv, hl, _⟩ := I.list hs
    rw [Vals.ref1 r]
    refine call_any_walk (iter_any hl.isList fun s₂ e2 st hne => ?_)
    subst e2
    refine ⟨_, _, _, _, _, _, _, rfl, Walks.list (A := X.A.in1) (I.ok.hd hc) _ a hne its.toArray, st, truth_flags hf rv, fun h' tk hk => ?_⟩
    refine ⟨.bl _, H, I.kept fun b o eo => hk b o (fun hmem => ?_) (Heap.get?_push_of_some _ eo), ?_, q⟩
    · rcases List.mem_cons.mp hmem with e1 | hmem
      · exact absurd (e1 ▸ Heap.lt_size eo) (Nat.lt_irrefl _)
      · cases hmem
    · show Value.bool _ = Value.bool _
      rw [← L2.any_range, List.size_toArray, ← rv.length, hf.len]
  · obtain ⟨its, rv, hl, _⟩ := I.tuple hs
    rw [Vals.ref1 r]
    have ht : s.heap.IsTuple a its.toArray := hl
    have hne : a ≠ s.heap.objs.size := Nat.ne_of_lt hl.lt
    refine call_any_walk (wpAny_pyIter_tuple ht ?_)
    refine ⟨_, _, _, _, _, _, _, rfl, Walks.tuple (A := X.A.in1) (I.ok.hd hc) _ a hne its.toArray, ⟨⟨_, Heap.get?_push_size _ rfl, rfl, rfl⟩, ht.at fun o e => Heap.get?_push_of_some _ e⟩, truth_flags hf rv, fun h' tk hk => ?_⟩
    refine ⟨.bl _, H, I.kept fun b o eo => hk b o (fun hmem => ?_) (Heap.get?_push_of_some _ eo), ?_, q⟩
    · rcases List.mem_cons.mp hmem with e1 | hmem
      · exact absurd (e1 ▸ Heap.lt_size eo) (Nat.lt_irrefl _)
      · cases hmem
    · show Value.bool _ = Value.bool _
      rw [← L2.any_range, List.size_toArray, ← rv.length, hf.len]
section
variable {K : PySem.W.Frag}
theorem us_sumA : UnS K (rSumA K) (lift1 dSumA) := us_lift (by
  intro x z e G H v sm dx Q q
  cases dx <;> first | cases e | skip
  · rename_i a xs ds hs ha
    obtain ⟨bs, h1, e⟩ := Option.bind_eq_some_iff.mp e
    cases e
    have e := ints_of ha h1
    subst e
    exact ⟨a, bs, rfl, .inl (sm.seq hs), q G H _ .same (.int _)⟩
  · rename_i a xs ds hs ha
    obtain ⟨bs, h1, e⟩ := Option.bind_eq_some_iff.mp e
    cases e
    have e := ints_of ha h1
    subst e
    exact ⟨a, bs, rfl, .inr (same_sqT sm hs), q G H _ .same (.int _)⟩)
theorem flags_of {G : Hp} : ∀ {vs : List V} {ds : List PyData} {bs : List Bool}, DqAll K G vs ds → flagsOf ds = some bs → FlagsV vs bs
  | _, _, _, .nil, h => by cases h; exact .nil
  | _, _, _, .cons h r, e => by
    unfold flagsOf at e
    obtain ⟨b, h0, e⟩ := Option.bind_eq_some_iff.mp e
    obtain ⟨bs, h1, e⟩ := Option.bind_eq_some_iff.mp e
    cases e
    refine .cons ?_ (flags_of r h1)
    cases h <;> first | cases h0 | skip
    · exact .bl _
    · exact .int _
theorem us_any : UnS K (rAny1 K) (lift1 dAny) := us_lift (by
  intro x z e G H v sm dx Q q
  cases dx <;> first | cases e | skip
  · rename_i a xs ds hs ha
    obtain ⟨bs, h1, e⟩ := Option.bind_eq_some_iff.mp e
    cases e
    exact ⟨a, xs, bs, rfl, .inl (sm.seq hs), flags_of ha h1, q G H _ .same (.bl _)⟩
  · rename_i a xs ds hs ha
    obtain ⟨bs, h1, e⟩ := Option.bind_eq_some_iff.mp e
    cases e
    exact ⟨a, xs, bs, rfl, .inr (same_sqT sm hs), flags_of ha h1, q G H _ .same (.bl _)⟩)
end
section
variable {K : PySem.W.Frag}
def sAsg2 (e : SE) (g1 g2 : SG) : SS := fun ρ M => (e ρ M).bind fun x => (g1 x.1 ρ x.2).bind fun y => (g2 x.1 y.1 y.2).bind fun z => some (.nx z.1 z.2)
theorem et_asg2 {ta : TE} {a : SE} {t1 t2 : TG} {s1 s2 : SG} (he : EvS K ta a) (h1 : EvG K t1 s1) (h2 : EvG K t2 s2) : EvT K (tAsg2 ta t1 t2) (sAsg2 a s1 s2) := by
  intro ρ M c h F π G H σ R S D q
  unfold sAsg2 at h
  obtain ⟨⟨x, M1⟩, e1, h⟩ := Option.bind_eq_some_iff.mp h
  obtain ⟨⟨ρ', M2⟩, e2, h⟩ := Option.bind_eq_some_iff.mp h
  obtain ⟨⟨ρ'', M3⟩, e3, h⟩ := Option.bind_eq_some_iff.mp h
  cases h
  refine he ρ M x M1 e1 F π G H σ R S _ fun π1 G1 H1 v1 g1 R1 s1 => ?_
  refine h1 x ρ M1 ρ' M2 e2 F π1 G1 H1 v1 σ R1 (S.gr g1) s1 _ fun π2 G2 H2 σ2 g2 R2 S2 => ?_
  exact h2 x ρ' M2 ρ'' M3 e3 F π2 G2 H2 v1 σ2 R2 S2 (s1.gr g2) _ fun π3 G3 H3 σ3 g3 R3 S3 => q π3 G3 H3 σ3 (g1.trans (g2.trans g3)) R3 S3
end
/-! max of a tuple -/
theorem max_tup {prog : Program} {w : World} {A : Around} {E : Value → Shared → Prop} {s : Shared} {t : Addr} {xs : Array (Int × Tok)} {Q : Value → Shared → Prop} (hh : A.handled = none) (ht : s.heap.IsTuple t (intItems xs)) (hne : 0 < xs.size)
    (h : ∀ v h' tk, (intItems xs)[argBest (fun i j => decide (numAt xs i > numAt xs j)) (xs.size - 1)]? = some v → (∀ b o, s.heap.get? b = some o → h'.get? b = some o) → Q v { s with heap := h', toks := tk }) :
    wpAny (model prog w) A (call (.builtin "max") [.ref t]) Q E s := by
  obtain ⟨o, ho, hc, n, hd⟩ := id ht
  have hlt : t ≠ s.heap.objs.size := Nat.ne_of_lt (Heap.lt_size ho)
  refine call_max_walk (wpAny_pyIter_tuple ht ?_)
  refine ⟨_, _, _, _, _, _, _, rfl, Walks.tuple (A := A.in1) hh _ t hlt (intItems xs), ⟨⟨_, Heap.get?_push_size _ rfl, rfl, rfl⟩, ht.at fun o e => Heap.get?_push_of_some _ e⟩, fun b hb => ?_, by simpa [intItems] using hne, CmpOf.ints_gt (numAt xs) (fun _ _ => intItems_at), fun v h' tk hP hk => ?_⟩
  · rcases List.mem_cons.mp hb with rfl | hb
    · exact Heap.lt_size (Heap.get?_push_size _ rfl)
    · obtain rfl := List.mem_singleton.mp hb
      exact Heap.lt_size (Heap.get?_push_of_some _ ho)
  · exact h v h' tk (by simpa [intItems] using hP) fun b o e => hk b o (fun hb => absurd (Heap.lt_size e) ((List.mem_singleton.mp hb) ▸ Nat.lt_irrefl _)) (Heap.get?_push_of_some _ e)
def rMaxA (K : PySem.W.Frag) : V → Hp → VK → Prop := fun x H Q => ∃ (a : Addr) (ns : List Int), x = .ref a ∧ SqA K H a (ns.map V.int) ∧ 0 < ns.length ∧ Q (.int (maxI ns)) H
theorem call_maxA {X : Cx} (hc : X.calm = true) : CallR X (.builtin "max") (fun xs H Q => ∃ x, xs = [x] ∧ rMaxA X.K x H Q) := by
  intro pins s σ H xs us Q I r h
  obtain ⟨x, rfl, a, ns, rfl, hs | hs, hne, q⟩ := h
  · exact call_max1 hc pins s σ H _ us Q I r ⟨_, rfl, a, ns, rfl, hs, hne, q⟩
  · obtain ⟨its, rv, hl, _⟩ := I.tuple hs
    rw [Vals.ref1 r]
    have hi := rv.ints
    have ht : s.heap.IsTuple a its.toArray := hl
    obtain ⟨xs, e⟩ := hi.allInts.items
    have hn : numsOf (intItems xs).toList = ns := by rw [← e]; exact hi.numsOf
    rw [nums_intItems] at hn
    subst hn
    rw [e] at ht
    have hsz : 0 < xs.size := by simpa using hne
    refine max_tup (I.ok.hd hc) ht hsz fun v h' tk hv hk => ?_
    obtain ⟨t, rfl⟩ := intItems_at hv
    obtain ⟨h1, h2⟩ := argBest_gt (numAt xs) (xs.size - 1)
    generalize hm : numAt xs (argBest (fun i j => decide (numAt xs i > numAt xs j)) (xs.size - 1)) = m at *
    have m1 : m ∈ List.map (fun x => x.1) xs.toList := by
      rw [← hm, numAt_eq]; exact PySem.getD_mem (by rw [List.length_map, Array.length_toList]; omega)
    have m2 : ∀ a, a ∈ List.map (fun x => x.1) xs.toList → a ≤ m := fun a ha => by
      obtain ⟨j, hj, rfl⟩ := mem_getD ha
      rw [List.length_map, Array.length_toList] at hj
      rw [← numAt_eq]; exact h2 j (by omega)
    have em := Int.le_antisymm (maxI_ge _ m m1) (m2 _ (maxI_mem _ hne))
    refine ⟨.int m, H, I.kept hk, ⟨_, rfl⟩, ?_⟩
    rw [em]; exact q
def dMaxA : PyData → Option PyData
  | .list ds => (intsOf ds).bind fun ns => if 0 < ns.length then some (.int (maxI ns)) else none
  | .tuple ds => (intsOf ds).bind fun ns => if 0 < ns.length then some (.int (maxI ns)) else none
  | _ => none
theorem us_maxA {K : PySem.W.Frag} : UnS K (rMaxA K) (lift1 dMaxA) := us_lift (by
  intro x z e G H v sm dx Q q
  cases dx <;> first | cases e | skip
  · rename_i a xs ds hs ha
    obtain ⟨bs, h1, e⟩ := Option.bind_eq_some_iff.mp e
    split at e
    · rename_i h0
      cases e
      have e := ints_of ha h1
      subst e
      exact ⟨a, bs, rfl, .inl (sm.seq hs), h0, q G H _ .same (.int _)⟩
    · cases e
  · rename_i a xs ds hs ha
    obtain ⟨bs, h1, e⟩ := Option.bind_eq_some_iff.mp e
    split at e
    · rename_i h0
      cases e
      have e := ints_of ha h1
      subst e
      exact ⟨a, bs, rfl, .inr (same_sqT sm hs), h0, q G H _ .same (.int _)⟩
    · cases e)
end Sm

/-! SmX9: for i in reversed(range(n)). -/
namespace Sm
open PySem PySem.Spec PyProof.Rows L2
section
variable {K : PySem.W.Frag}
def iRr1 (a : SE) : SI := fun ρ M => (a ρ M).bind fun x => match x.1 with
  | .dat (.int j) => if -(2 ^ 62) ≤ j ∧ j < 2 ^ 62 then some ((rangeD 0 j).reverse, x.2) else none
  | _ => none
theorem itrr_ok {G : Hp} {j : Int} : ItOk K G (Itc (0 + (((j - 0).toNat : Nat) : Int) - 1) (-1) (j - 0).toNat) (rangeD 0 j).reverse where
  go := fun i H e h => by rw [List.length_reverse, rangeD_len] at h; exact h
  stop := fun i H e h => by rw [List.length_reverse, rangeD_len] at h; exact h
  yld := fun i H x H' G2 e1 e2 y h => by
    obtain ⟨rfl, rfl⟩ := y
    rw [List.length_reverse, rangeD_len] at h
    refine ⟨.int (0 + (((j - 0).toNat : Nat) : Int) - 1 + (i : Nat) * -1), G2, ?_, .same, .int _⟩
    rw [List.getElem?_reverse (by rw [rangeD_len]; exact h), rangeD_len]
    unfold rangeD
    rw [List.getElem?_map, List.getElem?_range (by omega)]
    simp only [Option.map_some]
    congr 2
    omega
theorem ei_rr1 {ta : TE} {a : SE} (ha : EvS K ta a) : EvI K (iRevR (tRg1 ta)) (iRr1 a) := by
  intro ρ M z M' h F π G H σ R S Q q
  unfold iRr1 at h
  obtain ⟨⟨x, M1⟩, h1, h⟩ := Option.bind_eq_some_iff.mp h
  refine ha ρ M x M1 h1 F π G H σ R S _ fun π1 G1 H1 v1 g1 R1 s1 => ?_
  dsimp only at h
  split at h
  · rename_i j
    split at h
    · rename_i hj
      cases h
      cases s1 with
      | dat hd =>
        cases hd
        exact ⟨j, rfl, by decide, by decide, hj.1, hj.2, q π1 G1 H1 _ g1 R1 itrr_ok⟩
    · cases h
  · cases h
end
end Sm

/-! SmX10: x is not True (x a truth). -/
namespace Sm
open PySem PySem.Spec PyProof.Rows L2
section
variable {K : PySem.W.Frag}
def dNotB : PyData → PyData → Option PyData
  | .bool a, .bool b => some (.bool (!decide (a = b)))
  | _, _ => none
def rNotB' : R2 := fun x y H Q => ∃ a b, x = .bl a ∧ y = .bl b ∧ Q (.bl (!decide (a = b))) H
theorem os_notB : OpS K rNotB' (lift2 dNotB) := os_lift (by
  intro x y z e G H v w sm dx dy Q q
  cases dy <;> (cases dx <;> first | cases e | skip)
  all_goals exact ⟨_, _, rfl, rfl, q G H _ .same (.bl _)⟩)
theorem l_notB {M : Mem} : lift2 dNotB M (.dat (.bool true)) (.dat (.bool true)) = some (.dat (.bool false)) := rfl
end
end Sm

/-! SmX11: sorted(t), t a list or a tuple of ints. -/
namespace SrtO
open PySem PyProof.Rows Srt
section
variable {prog : Program} {w : World} {A : Around} {E : Value → Shared → Prop} {s : Shared}
theorem collect_tup {l : Addr} {vs : List Value} {Q : List Value → Shared → Prop} (hl : s.heap.IsTuple l vs.toArray)
    (h : Q vs { s with heap := (s.heap.push (seqObj "list" #[] 0)).update s.heap.objs.size (Obj.mapSeq (· ++ vs.toArray)) }) (hsz : vs.length ≤ sizeLine) :
    wpAny (model prog w) A (collect (.ref l)) Q E s := by
  obtain ⟨o, ho, hc, n, hd⟩ := id hl
  unfold collect
  refine wpAny_bind (wpAny_runValue (codeAny_builtin entry_proto_collect' ?_))
  show wpAny _ _ (do again (.builtin "list.__iadd__" ⟨[← newList [], .ref l], []⟩)) _ _ s
  refine wpAny_bind (wpAny_newList (wpAny_pure ⟨Code.quiet_builtin _ (by decide +kernel), codeAny_builtin entry_list_iadd' ?_⟩))
  show wpAny _ _ (Builtin.List.listExtendWith (.ref s.heap.objs.size) (.ref l) (.ref s.heap.objs.size)) _ _ { s with heap := s.heap.push (seqObj "list" #[] 0) }
  unfold Builtin.List.listExtendWith
  have ho' : (s.heap.push (seqObj "list" #[] 0)).get? l = some o := Heap.get?_push_of_some _ ho
  refine wpAny_bind (wpAny_typeOf (T := "tuple") ⟨o, ho', hc⟩ ?_)
  have ht : (Value.type "tuple" == Value.type "tuple") = true := by rfl
  rw [if_pos (by rw [ht]; simp)]
  refine wpAny_bind (listItems_at ho' hd ?_)
  refine wpAny_bind (listItems_at (xs := #[]) (n := 0) (Heap.get?_push_size _ rfl) rfl ?_)
  rw [if_neg (by simp)]
  refine wpAny_bind (listUpdate_at (xs := #[]) (n := 0) (Heap.get?_push_size _ rfl) rfl ?_ (Nat.zero_le _) (by show (#[] ++ vs.toArray).size ≤ sizeLine + 1; simp only [Array.size_append, List.size_toArray, List.length_nil]; omega))
  refine wpAny_pure ?_
  refine wpAny_bind (wpAny_load (get?_update_seq (Heap.get?_push_size _ rfl) _) ?_)
  show wpAny _ _ (pure ((#[] : Array Value) ++ vs.toArray).toList) Q E _
  rw [show ((#[] : Array Value) ++ vs.toArray).toList = vs by simp]
  exact wpAny_pure h
theorem sorted_tup {l : Addr} {vs : List Value} {ltv : Value → Value → Bool} {Q : Value → Shared → Prop} (O : Swo ltv) (hl : s.heap.IsTuple l vs.toArray) (hz : vs.length ≤ sizeLine)
    (hS : 2 ≤ vs.length → ∀ (h₁ : Heap) (a : Addr), h₁.get? a = some (seqObj "list" vs.toArray 0) → (∀ b o, s.heap.get? b = some o → b ≠ a ∧ h₁.get? b = some o) → SortableO prog w A.in1.in1 { s with heap := h₁ } a vs ltv)
    (h : ∀ out : List Value, Srtd ltv out → Stb ltv out vs → Q (.ref (s.heap.objs.size + 1)) { s with heap := sortedAll s.heap vs out.toArray }) :
    wpAny (model prog w) A (call (.builtin "sorted") [.ref l]) Q E s := by
  refine Calls.call_function_entry kind_sorted plain_sorted entry_sorted (args_sorted1 _) ?_
  unfold Builtin.«sorted»
  refine wpAny_bind (m := checkCount "sorted" 1 1 _) (wpAny_pure ?_)
  refine wpAny_bind (collect_tup hl ?_ hz)
  refine wpAny_bind (wpAny_newList ?_ hz)
  have hsz : ((s.heap.push (seqObj "list" #[] 0)).update s.heap.objs.size (Obj.mapSeq (· ++ vs.toArray))).objs.size = s.heap.objs.size + 1 := by
    rw [Heap.size_update, size_push']
  have hoL : (((s.heap.push (seqObj "list" #[] 0)).update s.heap.objs.size (Obj.mapSeq (· ++ vs.toArray))).push (seqObj "list" vs.toArray 0)).get? (s.heap.objs.size + 1) = some (seqObj "list" vs.toArray 0) := by
    rw [← hsz]; exact Heap.get?_push_size _ rfl
  have keep : ∀ b o, s.heap.get? b = some o → b ≠ s.heap.objs.size + 1 ∧ (((s.heap.push (seqObj "list" #[] 0)).update s.heap.objs.size (Obj.mapSeq (· ++ vs.toArray))).push (seqObj "list" vs.toArray 0)).get? b = some o := fun b o q => by
    have hlt : b < s.heap.objs.size := Heap.lt_size q
    refine ⟨Nat.ne_of_lt (Nat.lt_succ_of_lt hlt), Heap.get?_push_of_some _ ?_⟩
    rw [Heap.get?_update_ne _ _ _ _ (Nat.ne_of_lt hlt)]
    exact Heap.get?_push_of_some _ q
  show wpAny _ _ _ _ _ { s with heap := ((s.heap.push (seqObj "list" #[] 0)).update s.heap.objs.size (Obj.mapSeq (· ++ vs.toArray))).push (seqObj "list" vs.toArray 0) }
  rw [hsz]
  refine wpAny_bind (wpAny_holding (wpAny_call_entry slot_list_sort ⟨_, hoL, rfl⟩ entry_list_sort (list_sort_ord O hoL hz (fun h2 => hS h2 _ _ hoL keep) fun out hs hb => ⟨_, rfl, ?_⟩) (args_list_sort _)))
  exact wpAny_pure ⟨_, rfl, h out hs hb⟩
end
end SrtO
namespace Sm
open PySem PySem.Spec PyProof.Rows L2
section
variable {K : PySem.W.Frag}
def rSrtA (K : PySem.W.Frag) : V → Hp → VK → Prop := fun x H Q => ∃ (a : Addr) (ns : List Int), x = .ref a ∧ SqA K H a (ns.map V.int) ∧ ∀ p : Addr, H p = none → Q (.ref p) (upd H p (.lst ((srtI ns).map V.int)))
theorem call_sortedA {X : Cx} : CallR X (.builtin "sorted") (fun xs H Q => ∃ x, xs = [x] ∧ rSrtA X.K x H Q) := by
  intro pins s σ H xs us Q I r h
  obtain ⟨x, rfl, a, ns, rfl, hs | hs, q⟩ := h
  · exact call_sorted1 pins s σ H _ us Q I r ⟨_, rfl, a, ns, rfl, hs, q⟩
  · obtain ⟨its, rv, hl, hz⟩ := I.tuple hs
    rw [Vals.ref1 r]
    have hi := rv.ints
    refine SrtO.sorted_tup SrtO.swo_int hl (by rw [← rv.length]; exact hz) (fun h2 h₁ a' _ _ => SrtO.ints_sortable hi h2) fun out h1 h2 => ?_
    obtain ⟨k1, k2, k3⟩ := SrtO.ints_out hi h1 h2
    have e : out.map SrtO.iv = srtI ns := sorted_eq (k2.trans (srtI_perm ns).symm) k3 (srtI_sorted ns)
    obtain ⟨ep, he'⟩ := PyProof.Rows.sortedAll_at s.heap its out.toArray
    have hlen : ((srtI ns).map V.int).length ≤ sizeLine := by
      rw [List.length_map, (srtI_perm ns).length_eq]
      rw [List.length_map] at hz
      exact hz
    rw [e] at k1
    exact ⟨.ref _, upd H (s.heap.objs.size + 1) (.lst ((srtI ns).map V.int)), I.laid (t' := s.toks) (fun _ _ => PyProof.Rows.sortedAll_old) (Nat.le_succ _) ⟨hlen, out, ep, vals_of_ints k1, he'⟩, rfl, q _ (I.hok.fresh (Nat.le_succ _))⟩
def fSortedA : Mem → SV → Option SV := fun M x => (items M x).bind fun ds => (intsOf ds).bind fun ns => some (.dat (.list ((srtI ns).map PyData.int)))
theorem us_sortedA : UnS K (rSrtA K) fSortedA := by
  intro M x z e F π G H v R s Q q
  unfold fSortedA at e
  obtain ⟨ds, h1, e⟩ := Option.bind_eq_some_iff.mp e
  obtain ⟨ns, h2, e⟩ := Option.bind_eq_some_iff.mp e
  cases e
  have fin : ∀ a xs, v = .ref a → SqA K H a xs → DqAll K G xs ds → rSrtA K v H Q := by
    intro a xs e hs ha
    have e2 := ints_of ha h2
    subst e2
    exact ⟨a, ns, e, hs, fun p hp => q _ _ _ (.new hp) (.dat (.lst (SqL.of upd_same) (ints_all _)))⟩
  cases s with
  | dat d =>
    cases d <;> first | cases h1 | skip
    · rename_i a xs hs ha
      exact fin a xs rfl (.inl (R.ex.seq hs)) ha
    · rename_i a xs hs ha
      exact fin a xs rfl (.inr (same_sqT R.ex hs)) ha
  | @cel i a ea =>
    unfold items at h1
    dsimp only at h1
    split at h1
    · rename_i ys hy
      obtain ⟨a', vs, p1, p2, p3, p4, p5⟩ := R.mem i ys hy
      rw [ea] at p1; cases p1
      exact fin a vs rfl (.inl (SqL.of p4)) (dats_all h1 p5)
    · cases h1
end
end Sm

/-! SmX12: a, b, c = x, x a list (data). -/
namespace Sm
open PySem PySem.Spec PyProof.Rows L2
section
variable {K : PySem.W.Frag}
def gTpL (is : List Nat) : SG := fun r ρ M => match r with
  | .dat (.list ds) => if ds.length = is.length then some (setAll is ds ρ, M) else none
  | _ => none
theorem eg_unlD {is : List Nat} {n : Nat} (hn : n = is.length) : EvG K (gUnl K n (gNames is)) (gTpL is) := by
  intro r ρ M ρ' M' h F π G H v σ R S s Q q
  subst hn
  unfold gTpL at h
  cases s with
  | cel _ => cases h
  | dat hd =>
    cases hd with
    | @lst a xs ds hs ha =>
      dsimp only at h
      split at h
      · rename_i hl
        cases h
        exact ⟨a, xs, rfl, R.ex.seq hs, by rw [ha.length, hl], eg_names hl ha S fun σ' S' => q π G H σ' Gr.refl R S'⟩
      · cases h
    | _ => cases h
end
end Sm

/-! SmX13: lists of unlike lengths are unlike, whatever is in them -/
namespace Sm
open PySem PySem.Spec PyProof.Rows L2
section
variable {K : PySem.W.Frag}
def dNeZ (d e : PyData) : Option PyData := if lenNe d e = true then some (.bool true) else dNe d e
def rNeZ0 (K : PySem.W.Frag) : R2 := fun x y H Q => ∃ a b xs ys, x = .ref a ∧ y = .ref b ∧ SqL K H a xs ∧ SqL K H b ys ∧ xs.length ≠ ys.length ∧ Q (.bl true) H
def rNeZ (K : PySem.W.Frag) : R2 := fun x y H Q => rNeZ0 K x y H Q ∨ rNeA K x y H Q
theorem op_neZ0 {X : Cx} (hu : X.A.units + 64 < cLine) : OpR X (compareOp .NotEq) (rNeZ0 X.K) := by
  intro pins s σ H x y v u Q I rx ry h
  obtain ⟨a, b, xs, ys, rfl, rfl, ha, hb, hz, q⟩ := h
  cases rx
  cases ry
  obtain ⟨its, r1, p1, _⟩ := I.list ha
  obtain ⟨its2, r2, p2, _⟩ := I.list hb
  obtain ⟨o1, n1, g1, hc1, _, hd1⟩ := p1
  obtain ⟨o2, n2, g2, hc2, _, hd2⟩ := p2
  have l1 := r1.length
  have l2 := r2.length
  exact SeqAt.RcNeAt.lists_lengths (A := X.A) ⟨o1, g1, hc1, n1, hd1⟩ ⟨o2, g2, hc2, n2, hd2⟩ (by simp; omega) (by omega) X.prog X.w _ _ ⟨.bl true, H, I, rfl, q⟩
theorem op_neZ {X : Cx} (hu : X.A.units + 64 < cLine) : OpR X (compareOp .NotEq) (rNeZ X.K) := OpR.or (op_neZ0 hu) (op_neA hu)
theorem os_neZ : OpS K (rNeZ K) (lift2 dNeZ) := by
  intro M x y z e F π G H v w R sx sy Q q
  cases sx with
  | cel _ => cases e
  | @dat d v dx =>
    cases sy with
    | cel _ => cases e
    | @dat d2 w dy =>
      by_cases hl : lenNe d d2 = true
      · have e' : lift2 dNeZ M (.dat d) (.dat d2) = some (.dat (.bool true)) := by
          simp only [lift2, dNeZ, hl, if_true, Option.bind_some]
        rw [e'] at e
        cases e
        cases dx <;> first | cases hl | skip
        cases dy <;> first | cases hl | skip
        rename_i a xs ds hs ha b ys es hs2 hb
        refine .inl ⟨_, _, _, _, rfl, rfl, R.ex.seq hs, R.ex.seq hs2, ?_, q G H _ .same (.dat (.bl _))⟩
        rw [ha.length, hb.length]
        simpa [lenNe] using hl
      · have e' : lift2 dNe M (.dat d) (.dat d2) = some z := by
          rw [← e]
          simp only [lift2, dNeZ, hl, if_false, Bool.false_eq_true]
        exact .inr (os_ne M _ _ z e' F π G H v w R (.dat dx) (.dat dy) Q q)
end
theorem l_neZ {M : Mem} (xs : List PyData) : lift2 dNeZ M (.dat (.list xs)) (.dat (.list [])) = some (.dat (.bool (!xs.isEmpty))) := by
  cases xs with
  | nil => rfl
  | cons x xs =>
    have hl : lenNe (.list (x :: xs)) (.list []) = true := by simp [lenNe]
    simp only [lift2, dNeZ, hl, if_true, Option.bind_some]; rfl
end Sm

/-! SmX14: sorted of a list of pairs (int, anything), the ints unlike -/
namespace SrtO
open PySem PyProof.Rows Srt
section
variable {prog : Program} {w : World} {A : Around} {E : Value → Shared → Prop} {s : Shared}
def IsKP (h : Heap) (v : Value) (x : Int) : Prop := ∃ a o t y n, v = .ref a ∧ h.get? a = some o ∧ o.cls = .type "tuple" ∧ o.data = .seq #[.int x t, y] n
theorem IsKP.keeps {h h' : Heap} {v : Value} {x : Int} (p : IsKP h v x) (k : ∀ b o, h.get? b = some o → o.cls = .type "tuple" → h'.get? b = some o) : IsKP h' v x := by
  obtain ⟨a, o, t, u, n, e, ho, hc, hd⟩ := p
  exact ⟨a, o, t, u, n, e, k _ _ ho hc, hc, hd⟩
theorem swo_key (k : Value → Int) : Swo fun v u => decide (k v < k u) := by
  refine ⟨fun x y h => ?_, fun x y z h1 h2 => ?_⟩
  · have a := of_decide_eq_true h
    exact decide_eq_false (by omega)
  · have a := of_decide_eq_false h1
    have b := of_decide_eq_false h2
    exact decide_eq_false (by omega)
theorem key_cmp {vs : List Value} {k : Value → Int} (hp : ∀ v ∈ vs, IsKP s.heap v (k v)) (hi : ∀ v ∈ vs, ∀ u ∈ vs, k v = k u → v = u) : Cmp prog w A s (tuples' true) (fun p => p.1 ∈ vs) (lt2 fun v u => decide (k v < k u)) := by
  intro p q hm hm'
  have h1 := hp _ hm
  have h2 := hp _ hm'
  have h3 := hi _ hm _ hm'
  show wpAny (model prog w) A (keyLt' (tuples' true) p.1 q.1) (fun r s' => s' = s ∧ r = decide (k p.1 < k q.1)) (fun _ _ => False) s
  generalize k p.1 = x at h1 h3 ⊢
  generalize k q.1 = x' at h2 h3 ⊢
  obtain ⟨a, o, t, u, n, e, ho, hc, hd⟩ := h1
  obtain ⟨a', o', t', u', n', e', ho', hc', hd'⟩ := h2
  rw [e, e'] at h3 ⊢
  refine PySem.W.kat_lt ho hd ho' hd' ?_
  show PySem.W.KatLex prog w A true (decide (2 < 2)) _ [(.int x t, .int x' t'), (u, u')] 0 s
  refine PySem.W.kat_cons (SeqAt.EqAt.int_int x t x' t' prog w _ _ ?_)
  refine PySem.W.kat_go (fun e1 => ?_) (fun e1 => ?_)
  · have ex : x = x' := by simpa using e1
    have ea := h3 ex
    injection ea with ea
    subst ea
    rw [ho] at ho'
    cases ho'
    rw [hd] at hd'
    injection hd' with hd' _
    have eu : u = u' := by
      have := congrArg (fun z : Array Value => z.toList) hd'
      simp at this
      exact this.2
    subst eu
    refine PySem.W.kat_yes (PySem.W.kat_cons (SeqAt.EqAt.same u prog w _ _ ?_))
    exact PySem.W.kat_yes (PySem.W.kat_nil ⟨rfl, (decide_eq_false (by omega)).symm⟩)
  · exact PySem.W.kat_no (oneLt_int ⟨rfl, rfl⟩)
theorem firsts_key {h : Heap} : ∀ {vs : List Value}, (∀ v ∈ vs, ∃ x, IsKP h v x) → ∃ fs : List Value, PySem.W.KatTups h vs fs ∧ fs.length = vs.length ∧ ∀ f ∈ fs, ∃ x t, f = Value.int x t
  | [], _ => ⟨[], PySem.W.KatTups.nil, rfl, fun _ hm => by simp at hm⟩
  | v :: vs, hp => by
    obtain ⟨fs, h1, h2, h3⟩ := firsts_key (vs := vs) fun v' hm => hp v' (List.mem_cons_of_mem _ hm)
    obtain ⟨x, a, o, t, u, n, e, ho, hc, hd⟩ := hp v (List.mem_cons_self ..)
    subst e
    refine ⟨.int x t :: fs, PySem.W.KatTups.cons ho hc hd rfl h1, by rw [List.length_cons, List.length_cons, h2], fun f hm => ?_⟩
    rcases List.mem_cons.mp hm with rfl | hm
    · exact ⟨x, t, rfl⟩
    · exact h3 f hm
theorem key_sortable {a : Addr} {vs : List Value} {k : Value → Int} (h0 : 0 < vs.length) (hp : ∀ v ∈ vs, IsKP s.heap v (k v)) (hi : ∀ v ∈ vs, ∀ u ∈ vs, k v = k u → v = u) (ha : ∀ o, s.heap.get? a = some o → o.cls ≠ .type "tuple") : SortableO prog w A s a vs fun v u => decide (k v < k u) := by
  intro h' keep
  have hp' : ∀ v ∈ vs, IsKP h' v (k v) := fun v hm => (hp v hm).keeps fun b o e c => keep b o (fun z => by subst z; exact ha o e c) e
  obtain ⟨fs, h1, h2, h3⟩ := firsts_key fun v hm => ⟨_, hp' v hm⟩
  refine ⟨tuples' true, fun Q E hq => ?_, key_cmp hp' hi⟩
  refine PySem.W.kat_kind (T := .type "int") h1 (by omega) (fun f hm => ?_) (by rfl) ?_
  · obtain ⟨x, t, rfl⟩ := h3 f hm
    exact PySem.W.Looks.now
  · have e : (Value.type "int" != Value.type "tuple") = true := by first | decide +kernel | rfl | decide
    rw [e]
    exact hq
theorem sorted_key {l : Addr} {vs : List Value} {k : Value → Int} {Q : Value → Shared → Prop} (hl : s.heap.IsList l vs.toArray) (hz : vs.length ≤ sizeLine) (hp : ∀ v ∈ vs, IsKP s.heap v (k v)) (hi : ∀ v ∈ vs, ∀ u ∈ vs, k v = k u → v = u)
    (h : ∀ (h' : Heap) (d : Addr) (out : List Value), Srtd (fun v u => decide (k v < k u)) out → Stb (fun v u => decide (k v < k u)) out vs → (∀ b o, s.heap.get? b = some o → h'.get? b = some o) → s.heap.objs.size ≤ d → (∃ n, h'.get? d = some (seqObj "list" out.toArray n)) → Q (.ref d) { s with heap := h' }) :
    wpAny (model prog w) A (call (.builtin "sorted") [.ref l]) Q E s := by
  refine sorted_ord (swo_key k) hl hz (fun h2 h₁ a ha kk => ?_) fun out hs hb => ?_
  · refine key_sortable (s := { s with heap := h₁ }) (by omega) (fun v hm => (hp v hm).keeps fun b o e _ => (kk b o e).2) hi fun o e => ?_
    have e' : some o = some (seqObj "list" vs.toArray 0) := e.symm.trans ha
    cases e'
    intro c
    exact absurd (Value.type.inj c) (by decide)
  · exact h _ _ out hs hb (fun b o e => sortedAll_old e) (Nat.le_succ _) (sortedAll_at s.heap vs out.toArray)
end
end SrtO
namespace Sm
open PySem PySem.Spec PyProof.Rows L2
section
variable {K : PySem.W.Frag}
def insK (x : Int × PyData) : List (Int × PyData) → List (Int × PyData)
  | [] => [x]
  | y :: r => if x.1 < y.1 then x :: y :: r else y :: insK x r
def srtK : List (Int × PyData) → List (Int × PyData)
  | [] => []
  | x :: r => insK x (srtK r)
theorem insK_perm (x : Int × PyData) : ∀ l, (insK x l).Perm (x :: l)
  | [] => List.Perm.refl _
  | y :: r => by
    unfold insK
    split
    · exact List.Perm.refl _
    · exact ((insK_perm x r).cons y).trans (List.Perm.swap x y r)
theorem srtK_perm : ∀ l, (srtK l).Perm l
  | [] => List.Perm.refl _
  | x :: r => (insK_perm x (srtK r)).trans ((srtK_perm r).cons x)
theorem insK_sorted (x : Int × PyData) : ∀ l, l.Pairwise (fun a b => a.1 ≤ b.1) → (insK x l).Pairwise (fun a b => a.1 ≤ b.1)
  | [], _ => List.pairwise_singleton _ _
  | y :: r, h => by
    obtain ⟨h1, h2⟩ := List.pairwise_cons.mp h
    unfold insK
    split
    · rename_i hx
      refine List.pairwise_cons.mpr ⟨fun z hz => ?_, h⟩
      rcases List.mem_cons.mp hz with e | e
      · rw [e]; omega
      · have := h1 z e; omega
    · rename_i hx
      refine List.pairwise_cons.mpr ⟨fun z hz => ?_, insK_sorted x r h2⟩
      rcases List.mem_cons.mp ((insK_perm x r).mem_iff.mp hz) with e | e
      · rw [e]; omega
      · exact h1 z e
theorem srtK_sorted : ∀ l, (srtK l).Pairwise (fun a b => a.1 ≤ b.1)
  | [] => List.Pairwise.nil
  | x :: r => insK_sorted x _ (srtK_sorted r)
/-- by unlike keys there is one order alone -/
theorem key_one {α : Type} : ∀ {a b : List (Int × α)}, a.Perm b → (a.map Prod.fst).Nodup → a.Pairwise (fun x y => x.1 ≤ y.1) → b.Pairwise (fun x y => x.1 ≤ y.1) → a = b
  | [], _, p, _, _, _ => (List.Perm.nil_eq p)
  | x :: a, [], p, _, _, _ => by have := p.length_eq; simp at this
  | x :: a, y :: b, p, nd, ha, hb => by
    obtain ⟨a1, a2⟩ := List.pairwise_cons.mp ha
    obtain ⟨b1, b2⟩ := List.pairwise_cons.mp hb
    rw [List.map_cons, List.nodup_cons] at nd
    have e : x = y := by
      rcases List.mem_cons.mp (p.mem_iff.mp List.mem_cons_self) with e | e
      · exact e
      · rcases List.mem_cons.mp (p.mem_iff.mpr List.mem_cons_self) with f | f
        · exact f.symm
        · have h1 := a1 y f
          have h2 := b1 x e
          have h3 : x.1 = y.1 := by omega
          exact absurd (h3 ▸ List.mem_map_of_mem f) nd.1
    subst e
    rw [key_one (List.Perm.cons_inv p) nd.2 a2 b2]
theorem perm_lift {α β : Type} {f : α → β} : ∀ {zs m : List β}, zs.Perm m → ∀ l : List α, l.map f = m → ∃ ws : List α, ws.Perm l ∧ ws.map f = zs := by
  intro zs m h
  induction h with
  | nil =>
    intro l e
    rw [List.map_eq_nil_iff] at e
    subst e
    exact ⟨[], List.Perm.refl _, rfl⟩
  | cons x _ ih =>
    intro l e
    match l, e with
    | a :: l, e =>
      rw [List.map_cons] at e
      injection e with e1 e2
      obtain ⟨ws, h1, h2⟩ := ih l e2
      exact ⟨a :: ws, h1.cons a, by rw [List.map_cons, e1, h2]⟩
  | swap x y r =>
    intro l e
    match l, e with
    | a :: b :: l, e =>
      rw [List.map_cons, List.map_cons] at e
      injection e with e1 e2
      injection e2 with e2 e3
      exact ⟨b :: a :: l, List.Perm.swap a b l, by rw [List.map_cons, List.map_cons, e1, e2, e3]⟩
    | [a], e => simp at e
  | trans _ _ ih1 ih2 =>
    intro l e
    obtain ⟨ws, h1, h2⟩ := ih2 l e
    obtain ⟨us, h3, h4⟩ := ih1 ws h2
    exact ⟨us, h3.trans h1, h4⟩
def keysOf : List PyData → Option (List (Int × PyData))
  | [] => some []
  | .tuple [.int i, x] :: r => (keysOf r).bind fun ps => some ((i, x) :: ps)
  | _ => none
def nodupB : List Int → Bool
  | [] => true
  | x :: r => !r.contains x && nodupB r
theorem nodupB_iff : ∀ l : List Int, nodupB l = true ↔ l.Nodup
  | [] => by simp [nodupB]
  | x :: r => by simp [nodupB, nodupB_iff r, List.nodup_cons]
def fSortK : Mem → SV → Option SV := fun _ x => match x with
  | .dat (.list ds) => (keysOf ds).bind fun ps => if nodupB (ps.map Prod.fst) = true then some (.dat (.list ((srtK ps).map fun q => PyData.tuple [.int q.1, q.2]))) else none
  | _ => none
def rSrtKy (K : PySem.W.Frag) : V → Hp → VK → Prop := fun x H Q => ∃ (a : Addr) (xs : List V) (ks : List Int), x = .ref a ∧ SqL K H a xs ∧ xs.length = ks.length ∧ ks.Nodup ∧ (∀ z ∈ xs.zip ks, ∃ t u, z.1 = V.ref t ∧ SqT K H t [.int z.2, u]) ∧
  ∀ (zs : List (V × Int)) (p : Addr), zs.Perm (xs.zip ks) → zs.Pairwise (fun a b => a.2 ≤ b.2) → H p = none → Q (.ref p) (upd H p (.lst (zs.map Prod.fst)))
open Classical in
theorem call_sortK {X : Cx} : CallR X (.builtin "sorted") (fun xs H Q => ∃ x, xs = [x] ∧ rSrtKy X.K x H Q) := by
  intro pins s σ H vs us Q I r h
  obtain ⟨x, rfl, a, xs, ps, rfl, hs, hl, nd, hx, q⟩ := h
  obtain ⟨its, rv, pl, hz⟩ := I.list hs
  obtain ⟨u, rfl, ru⟩ := vals1 r
  obtain rfl : u = Value.ref a := ru
  obtain ⟨k, hk⟩ : ∃ k : V → Int, ∀ z ∈ xs.zip ps, k z.1 = z.2 := by
    refine ⟨fun v => if h : ∃ c : Int, (v, c) ∈ xs.zip ps then h.choose else 0, fun z hz' => ?_⟩
    have hc : ∃ c : Int, (z.1, c) ∈ xs.zip ps := ⟨z.2, hz'⟩
    show (if h : ∃ c : Int, (z.1, c) ∈ xs.zip ps then h.choose else 0) = z.2
    rw [dif_pos hc]
    obtain ⟨t, u, e1, f1⟩ := hx _ hz'
    obtain ⟨t', u', e2, f2⟩ := hx _ hc.choose_spec
    have e : V.ref t = V.ref t' := e1.symm.trans e2
    cases e
    have := I.tuple_inj f2 f1
    simp only [List.cons.injEq, V.int.injEq, and_true] at this
    exact this.1
  have hzip : xs.zip ps = xs.map fun v => (v, k v) := by
    clear hx q rv hs hz nd
    induction xs generalizing ps with
    | nil => rfl
    | cons v xs ih =>
      cases ps with
      | nil => simp at hl
      | cons c ps =>
        have h1 : k v = c := hk (v, c) (by simp)
        rw [List.zip_cons_cons, List.map_cons, h1, ih ps (by simpa using hl) fun z hz => hk z (by rw [List.zip_cons_cons]; exact List.mem_cons_of_mem _ hz)]
  have hps : xs.map k = ps := by
    have := congrArg (List.map Prod.snd) hzip
    rw [List.map_snd_zip (by omega), List.map_map] at this
    exact this.symm
  have ref_of : ∀ v ∈ xs, ∃ t u, v = V.ref t ∧ SqT X.K H t [.int (k v), u] := fun v hv => by
    have : (v, k v) ∈ xs.zip ps := by rw [hzip]; exact List.mem_map.mpr ⟨v, hv, rfl⟩
    exact hx _ this
  have kinj : ∀ v ∈ xs, ∀ u ∈ xs, k v = k u → v = u := by
    have nd' : (xs.map k).Nodup := by rw [hps]; exact nd
    clear hx q rv hs hz nd hzip ref_of hk hl hps
    induction xs with
    | nil => intro v hv; cases hv
    | cons y xs ih =>
      rw [List.map_cons, List.nodup_cons] at nd'
      intro v hv u hu e
      rcases List.mem_cons.mp hv with z1 | z1
      · rcases List.mem_cons.mp hu with z2 | z2
        · rw [z1, z2]
        · rw [z1] at e
          exact absurd (e ▸ List.mem_map_of_mem z2) nd'.1
      · rcases List.mem_cons.mp hu with z2 | z2
        · rw [z2] at e
          exact absurd (e ▸ List.mem_map_of_mem z1) nd'.1
        · exact ih nd'.2 v z1 u z2 e
  obtain ⟨e1, e2⟩ := refs_back rv fun v m => let ⟨t, _, e, _⟩ := ref_of v m; ⟨t, e⟩
  have mem_of : ∀ v ∈ its, backV v ∈ xs := fun v hv => by rw [e1]; exact List.mem_map.mpr ⟨_, hv, rfl⟩
  refine SrtO.sorted_key (k := fun u => k (backV u)) pl.isList (by rw [← rv.length]; exact hz) (fun v hv => ?_) (fun v hv u hu e => ?_) fun h' d out h1 h2 kp hd hn => ?_
  · obtain ⟨t, rfl⟩ := e2 v hv
    obtain ⟨t', u', e, ht⟩ := ref_of (V.ref t) (by rw [e1]; exact List.mem_map.mpr ⟨_, hv, rfl⟩)
    cases e
    obtain ⟨its2, r2, ⟨o, ho, hc, n, hd⟩, _⟩ := I.tuple ht
    obtain ⟨u1, u2, rfl, ⟨t1, rfl⟩, _⟩ := vals2 r2
    exact ⟨t, o, t1, u2, n, rfl, ho, hc, hd⟩
  · have hb := kinj _ (mem_of v hv) _ (mem_of u hu) e
    obtain ⟨t, rfl⟩ := e2 v hv
    obtain ⟨t', rfl⟩ := e2 u hu
    have : V.ref t = V.ref t' := hb
    cases this
    rfl
  · obtain ⟨n, hn⟩ := hn
    have h3 : ∀ u ∈ out, ∃ a, u = Value.ref a := fun u hu => e2 u (h2.perm.mem_iff.mp hu)
    have hpm : (out.map backV).Perm xs := by rw [e1]; exact h2.perm.map backV
    have hq := q ((out.map backV).map fun v => (v, k v)) d (by rw [hzip]; exact hpm.map _) (by
      rw [List.pairwise_map, List.pairwise_map]
      exact h1.imp fun hh => by have := of_decide_eq_false hh; simp only; omega) (I.hok.fresh hd)
    have e3 : ((out.map backV).map fun v => (v, k v)).map Prod.fst = out.map backV := by rw [List.map_map]; exact List.map_id _
    rw [e3] at hq
    exact ⟨.ref d, upd H d (.lst (out.map backV)), I.laid (t' := s.toks) kp hd ⟨by rw [hpm.length_eq]; exact hz, out, n, vals_back h3, hn⟩, rfl, hq⟩
theorem keys_dq {G : Hp} : ∀ {ds : List PyData} {ps : List (Int × PyData)} {xs : List V}, keysOf ds = some ps → DqAll K G xs ds → xs.length = ps.length ∧ ∀ z ∈ xs.zip ps, ∃ t u, z.1 = V.ref t ∧ SqT K G t [.int z.2.1, u] ∧ Dq K G u z.2.2
  | [], ps, xs, h, d => by
    cases d; cases h
    exact ⟨rfl, by simp⟩
  | d :: ds, ps, xs, h, dq => by
    unfold keysOf at h
    split at h
    · rename_i e; cases e
    · rename_i i x r e
      cases e
      obtain ⟨qs, h1, h2⟩ := Option.bind_eq_some_iff.mp h
      cases h2
      cases dq with
      | cons d1 d2 =>
        obtain ⟨l1, l2⟩ := keys_dq h1 d2
        refine ⟨by simp [l1], fun z hz => ?_⟩
        rw [List.zip_cons_cons] at hz
        rcases List.mem_cons.mp hz with e | e
        · subst e
          cases d1 with
          | tup hs ha =>
            cases ha with
            | cons b1 ha =>
              cases ha with
              | cons b2 ha =>
                cases ha; cases b1
                exact ⟨_, _, rfl, hs, b2⟩
        · exact l2 z e
    · cases h
theorem us_sortK : UnS K (rSrtKy K) fSortK := by
  intro M x z e F π G H v R s Q q
  unfold fSortK at e
  split at e
  · rename_i ds
    obtain ⟨ps, h1, h2⟩ := Option.bind_eq_some_iff.mp e
    split at h2
    case isFalse => cases h2
    rename_i hnd
    cases h2
    cases s with
    | dat d =>
      cases d with
      | lst hs ha =>
        rename_i a xs
        obtain ⟨l1, l2⟩ := keys_dq h1 ha
        have zm : (xs.zip ps).map (fun z => (z.1, z.2.1)) = xs.zip (ps.map Prod.fst) := by
          rw [List.zip_map_right]; rfl
        refine ⟨a, xs, ps.map Prod.fst, rfl, R.ex.seq hs, by rw [List.length_map]; exact l1, (nodupB_iff _).mp hnd, fun z hz => ?_, fun zs p hp hso hn => ?_⟩
        · rw [← zm] at hz
          obtain ⟨y, hy, rfl⟩ := List.mem_map.mp hz
          obtain ⟨t, u, e1, e2, _⟩ := l2 y hy
          exact ⟨t, u, e1, same_sqT R.ex e2⟩
        · have sg : Same G (upd G p (.lst (zs.map Prod.fst))) := same_upd (none_of_same R.ex hn)
          -- the pairs as they come out
          obtain ⟨ws, hws, ewz⟩ : ∃ ws : List (V × (Int × PyData)), ws.Perm (xs.zip ps) ∧ ws.map (fun z => (z.1, z.2.1)) = zs := by
            rw [← zm] at hp
            obtain ⟨ws, h3, h4⟩ := perm_lift hp _ rfl
            exact ⟨ws, h3, h4⟩
          have hps : (ws.map Prod.snd) = srtK ps := by
            have pm : (ws.map Prod.snd).Perm ps := by
              have := hws.map Prod.snd
              rwa [List.map_snd_zip (Nat.le_of_eq l1.symm)] at this
            refine key_one (pm.trans (srtK_perm ps).symm) ?_ ?_ (srtK_sorted ps)
            · exact ((pm.map Prod.fst).nodup_iff).mpr ((nodupB_iff _).mp hnd)
            · rw [List.pairwise_map]
              rw [← ewz, List.pairwise_map] at hso
              exact hso
          refine q (upd G p (.lst (zs.map Prod.fst))) _ _ (.new hn) (.dat (.lst (SqL.of upd_same) ?_))
          rw [← hps, ← ewz, List.map_map]
          have all : ∀ z ∈ ws, ∃ t u, z.1 = V.ref t ∧ SqT K G t [.int z.2.1, u] ∧ Dq K G u z.2.2 := fun z hz => l2 z (hws.mem_iff.mp hz)
          rw [← ewz, List.map_map] at sg
          clear hp hso hps hn ewz hws
          have : ∀ (W : Hp), Same G W → ∀ ws : List (V × (Int × PyData)), (∀ z ∈ ws, ∃ t u, z.1 = V.ref t ∧ SqT K G t [.int z.2.1, u] ∧ Dq K G u z.2.2) → DqAll K W (ws.map (Prod.fst ∘ fun z => (z.1, z.2.1))) ((ws.map Prod.snd).map fun q => PyData.tuple [.int q.1, q.2]) := by
            intro W sw ws
            induction ws with
            | nil => intro _; exact .nil
            | cons z zs ih =>
              intro h
              obtain ⟨t, u, e1, e2, e3⟩ := h z List.mem_cons_self
              rw [List.map_cons, List.map_cons, List.map_cons]
              show DqAll K W (z.1 :: _) _
              rw [e1]
              exact .cons (.tup (same_sqT sw e2) (.cons (.int _) (.cons (e3.mono sw) .nil))) (ih fun y hy => h y (List.mem_cons_of_mem _ hy))
          exact this _ sg ws all
  · cases e
end
end Sm

/-! SmX15: dicts by ints and texts: read, walked, made. -/
namespace Sm
open PySem PySem.Spec PyProof.Rows L2
def keyOf : PyData → Option Key
  | .int i => some (.inl i)
  | .str x => some (.inr x)
  | _ => none
theorem keyOf_kD (k : Key) : keyOf (kD k) = some k := by cases k <;> rfl
def lookD : List (PyData × PyData) → Key → Option PyData
  | [], _ => none
  | e :: r, k => if keyOf e.1 = some k then some e.2 else lookD r k
def hasD (ds : List (PyData × PyData)) (k : Key) : Bool := ds.any fun e => decide (keyOf e.1 = some k)
def putD (ds : List (PyData × PyData)) (k : Key) (v : PyData) : List (PyData × PyData) := if hasD ds k = true then ds.map (fun e => if keyOf e.1 = some k then (e.1, v) else e) else ds ++ [(kD k, v)]
theorem room1 {X : Cx} {k : Nat} (hr : Room k X.A) : X.A.units + 1 < cLine := by have := hr.un; omega
section
variable {K : PySem.W.Frag} {G G' : Hp}
theorem key_some {k j : Key} : keyOf (kD k) = some j ↔ k = j := by rw [keyOf_kD]; exact ⟨fun h => Option.some.inj h, fun h => by rw [h]⟩
theorem dq_key (k : Key) : Dq K G (kV k) (kD k) := by cases k with | inl i => exact .int i | inr x => exact .str x
theorem key_of {v : V} {d : PyData} {k : Key} (h : Dq K G v d) (e : keyOf d = some k) : v = kV k := by
  cases h <;> first | cases e | skip
  · rfl
  · rfl
theorem DqKv.length : ∀ {kvs : List (Key × V)} {ds : List (PyData × PyData)}, DqKv K G kvs ds → kvs.length = ds.length
  | _, _, .nil => rfl
  | _, _, .cons _ r => by rw [List.length_cons, List.length_cons, r.length]
theorem DqKv.get : ∀ {kvs : List (Key × V)} {ds : List (PyData × PyData)} {i : Nat} {k : Key} {v : V}, DqKv K G kvs ds → kvs[i]? = some (k, v) → ∃ d, ds[i]? = some (kD k, d) ∧ Dq K G v d
  | _, _, _, _, _, .nil, h => by simp at h
  | _, _, 0, _, _, .cons h _, e => by
    simp at e
    obtain ⟨rfl, rfl⟩ := e
    exact ⟨_, rfl, h⟩
  | _, _, i + 1, _, _, .cons _ r, e => by
    obtain ⟨y, h1, h2⟩ := r.get (i := i) (by simpa using e)
    exact ⟨y, by simpa using h1, h2⟩
theorem DqKv.look : ∀ {kvs : List (Key × V)} {ds : List (PyData × PyData)} {k : Key}, DqKv K G kvs ds → (∃ v d, valV kvs k = some v ∧ lookD ds k = some d ∧ Dq K G v d) ∨ (valV kvs k = none ∧ lookD ds k = none)
  | _, _, _, .nil => .inr ⟨rfl, rfl⟩
  | _, _, k, .cons (k := j) (v := v) (d := d) h r => by
    by_cases e : j = k
    · subst e
      exact .inl ⟨v, d, valV_pos rfl, by simp [lookD, keyOf_kD], h⟩
    · have e2 : ¬ keyOf (kD j) = some k := fun z => e (key_some.mp z)
      rcases r.look (k := k) with ⟨v', d', h1, h2, h3⟩ | ⟨h1, h2⟩
      · exact .inl ⟨v', d', by rw [valV_neg e]; exact h1, by simp [lookD, e2, h2], h3⟩
      · exact .inr ⟨by rw [valV_neg e]; exact h1, by simp [lookD, e2, h2]⟩
theorem DqKv.has : ∀ {kvs : List (Key × V)} {ds : List (PyData × PyData)} {k : Key}, DqKv K G kvs ds → (kvs.any fun kv => decide (kv.1 = k)) = hasD ds k
  | _, _, _, .nil => rfl
  | _, _, k, .cons (k := j) h r => by
    unfold hasD
    rw [List.any_cons, List.any_cons]
    have ih := r.has (k := k)
    unfold hasD at ih
    rw [ih]
    congr 1
    rw [decide_eq_decide]
    exact key_some.symm
theorem DqKv.app : ∀ {kvs : List (Key × V)} {ds : List (PyData × PyData)} {k : Key} {v : V} {d : PyData}, DqKv K G kvs ds → Dq K G v d → DqKv K G (kvs ++ [(k, v)]) (ds ++ [(kD k, d)])
  | _, _, _, _, _, .nil, h => .cons h .nil
  | _, _, _, _, _, .cons h r, h' => .cons h (r.app h')
theorem DqKv.repl : ∀ {kvs : List (Key × V)} {ds : List (PyData × PyData)} {k : Key} {v : V} {d : PyData}, DqKv K G kvs ds → Dq K G v d → DqKv K G (kvs.map (fun kv => if kv.1 = k then (kv.1, v) else kv)) (ds.map (fun e => if keyOf e.1 = some k then (e.1, d) else e))
  | _, _, _, _, _, .nil, _ => .nil
  | _, _, k, v, d, .cons (k := j) h r, h' => by
    rw [List.map_cons, List.map_cons]
    by_cases e : j = k
    · rw [if_pos e, if_pos (key_some.mpr e)]
      exact .cons h' (r.repl h')
    · rw [if_neg e, if_neg (fun z => e (key_some.mp z))]
      exact .cons h (r.repl h')
theorem DqKv.put {kvs : List (Key × V)} {ds : List (PyData × PyData)} {k : Key} {v : V} {d : PyData} (h : DqKv K G kvs ds) (h' : Dq K G v d) : DqKv K G (putK kvs k v) (putD ds k d) := by
  unfold putK putD
  rw [h.has]
  split
  · exact h.repl h'
  · exact h.app h'
/-! d[k] -/
def fDGet : Mem → SV → SV → Option SV := fun _ x y => match x, y with
  | .dat (.dict ds), .dat y => (keyOf y).bind fun k => (lookD ds k).bind fun d => some (.dat d)
  | _, _ => none
def rDGet : R2 := fun x y H Q => ∃ a v, x = .ref a ∧ DGet H a y (some v) ∧ Q v H
theorem os_dget : OpS K rDGet fDGet := by
  intro M x y z e F π G H v w R sx sy Q q
  unfold fDGet at e
  split at e
  · rename_i ds y
    obtain ⟨k, hk, e⟩ := Option.bind_eq_some_iff.mp e
    obtain ⟨d, hd, e⟩ := Option.bind_eq_some_iff.mp e
    cases e
    cases sx with
    | dat dx =>
      cases sy with
      | dat dy =>
        have ew := key_of dy hk
        subst ew
        cases dx with
        | @dic a o kvs _ h hr =>
          rcases hr.look (k := k) with ⟨v', d', h1, h2, h3⟩ | ⟨_, h2⟩
          · rw [hd] at h2
            cases h2
            exact ⟨a, v', rfl, .inl ⟨kvs, k, .inr ⟨o, R.ex _ _ h⟩, rfl, h1.symm⟩, q G H _ .same (.dat h3)⟩
          · rw [hd] at h2; cases h2
  · cases e
/-! k in d -/
def fDIn (neg : Bool) : Mem → SV → SV → Option SV := fun _ y x => match y, x with
  | .dat y, .dat (.dict ds) => (keyOf y).bind fun k => some (.dat (.bool (if neg then !(lookD ds k).isSome else (lookD ds k).isSome)))
  | _, _ => none
def rDIn (neg : Bool) : R2 := fun y x H Q => ∃ a o, x = .ref a ∧ DGet H a y o ∧ Q (.bl (if neg then !o.isSome else o.isSome)) H
theorem os_din {neg : Bool} : OpS K (rDIn neg) (fDIn neg) := by
  intro M x y z e F π G H v w R sx sy Q q
  unfold fDIn at e
  split at e
  · rename_i y ds
    obtain ⟨k, hk, e⟩ := Option.bind_eq_some_iff.mp e
    cases e
    cases sx with
    | dat dy =>
      cases sy with
      | dat dx =>
        have ew := key_of dy hk
        subst ew
        cases dx with
        | @dic a o kvs _ h hr =>
          refine ⟨a, valV kvs k, rfl, .inl ⟨kvs, k, .inr ⟨o, R.ex _ _ h⟩, rfl, rfl⟩, ?_⟩
          have e : (valV kvs k).isSome = (lookD ds k).isSome := by
            rcases hr.look (k := k) with ⟨v', d', h1, h2, h3⟩ | ⟨h1, h2⟩
            · rw [h1, h2]; rfl
            · rw [h1, h2]; rfl
          rw [e]
          exact q G H _ .same (.dat (.bl _))
  · cases e
theorem pc_dinS {X : Cx} {i o : Expr} {td ty : TE} (hu : X.A.units + 1 < cLine) (hi : PE X i ty) (ho : PE X o td) : PC X .In i o (tOp (rDIn false) ty td) := pc_din hu hi ho
theorem pc_dnotinS {X : Cx} {i o : Expr} {td ty : TE} (hu : X.A.units + 1 < cLine) (hi : PE X i ty) (ho : PE X o td) : PC X .NotIn i o (tOp (rDIn true) ty td) := pc_dnotin hu hi ho
theorem pe_dgetS {X : Cx} {i o : Expr} {td ty : TE} {pos : Pos} (hu : X.A.units + 1 < cLine) (ho : PE X o td) (hi : PE X i ty) (hs : NoSl i) : PE X (.Subscript o i pos) (tOp rDGet td ty) := pe_dget hu ho hi hs
/-! len(d) -/
def rLenA (K : PySem.W.Frag) : V → Hp → VK → Prop := fun x H Q => rLen1 K x H Q ∨ ∃ a kvs, x = .ref a ∧ Rd H a (.dK kvs) ∧ Q (.int kvs.length) H
theorem call_lenA {X : Cx} : CallR X (.builtin "len") (fun xs H Q => ∃ x, xs = [x] ∧ rLenA X.K x H Q) := by
  intro pins s σ H xs us Q I r h
  obtain ⟨x, rfl, h | ⟨a, kvs, rfl, ha, q⟩⟩ := h
  · exact call_len1 pins s σ H _ us Q I r ⟨x, rfl, h⟩
  · obtain ⟨u, rfl, ru⟩ := vals1 r
    cases ru
    exact d_len I ha fun t s' I' => ⟨.int kvs.length, H, I', ⟨t, rfl⟩, q⟩
def fLenA : Mem → SV → Option SV := fun M x => match x with
  | .dat (.dict ds) => some (.dat (.int ds.length))
  | x => fLen M x
theorem us_lenA : UnS K (rLenA K) fLenA := by
  intro M x z e F π G H v R s Q q
  unfold fLenA at e
  split at e
  · cases e
    cases s with
    | dat d =>
      cases d with
      | @dic a o kvs _ h hr => exact .inr ⟨a, kvs, rfl, .inr ⟨o, R.ex _ _ h⟩, by rw [hr.length]; exact q G H _ .same (.dat (.int _))⟩
  · exact .inl (us_len M x z e F π G H v R s Q q)
/-! for k in d -/
def iDatK (a : SE) : SI := fun ρ M => (a ρ M).bind fun x => match x.1 with
  | .dat (.dict ds) => some (ds.map Prod.fst, x.2)
  | _ => none
theorem itk_ok {d : Addr} {o : Obj} {kvs : List (Key × V)} {ds : List (PyData × PyData)} (hs : G d = some (.frz o (.dK kvs))) (ha : DqKv K G kvs ds) : ItOk K G (Itk d o kvs) (ds.map Prod.fst) where
  go := fun i H e hi => ⟨e _ _ hs, by rw [ha.length]; simpa using hi⟩
  stop := fun i H e hi => ⟨e _ _ hs, by rw [ha.length]; simpa using hi⟩
  yld := fun i H x H' G2 e1 e2 y hi => by
    obtain ⟨rfl, k, v, hk, rfl⟩ := y
    obtain ⟨dd, h1, h2⟩ := ha.get hk
    exact ⟨kD k, G2, by rw [List.getElem?_map, h1]; rfl, .same, dq_key k⟩
theorem ei_keys {ta : TE} {a : SE} (ha : EvS K ta a) : EvI K (iKeys ta) (iDatK a) := by
  intro ρ M z M' h F π G H σ R S Q q
  unfold iDatK at h
  obtain ⟨⟨x, M1⟩, h1, hh⟩ := Option.bind_eq_some_iff.mp h
  clear h
  refine ha ρ M x M1 h1 F π G H σ R S _ fun π1 G1 H1 v1 g1 R1 s1 => ?_
  dsimp only at hh
  split at hh
  · cases hh
    cases s1 with
    | dat d =>
      cases d with
      | @dic a o kvs ds hs hr => exact ⟨a, o, rfl, .inl ⟨kvs, R1.ex _ _ hs, q π1 G1 H1 _ g1 R1 (itk_ok hs hr)⟩⟩
  · cases hh
/-! sorted(d), its keys ints -/
def rSrtD : V → Hp → VK → Prop := fun x H Q => ∃ (a : Addr) (kvs : List (Key × V)) (ks : List Int), x = .ref a ∧ Rd H a (.dK kvs) ∧ kvs.map (·.1) = ks.map Sum.inl ∧ ks.length < 64 ∧ ∀ p : Addr, H p = none → Q (.ref p) (upd H p (.lst ((srtI ks).map V.int)))
theorem call_sortD {X : Cx} (hc : X.calm = true) : CallR X (.builtin "sorted") (fun xs H Q => ∃ x, xs = [x] ∧ rSrtD x H Q) := by
  intro pins s σ H xs us Q I r h
  obtain ⟨x, rfl, a, kvs, ks, rfl, hd, hk, hl, q⟩ := h
  refine call_sortedDI hc pins s σ H _ us Q I r ⟨a, kvs, ks, rfl, hd, hk, hl, fun ys p h1 h2 hp => ?_⟩
  have e : ys = srtI ks := sorted_eq (h1.trans (srtI_perm ks).symm) h2 (srtI_sorted ks)
  subst e
  exact q p hp
def fSortD : Mem → SV → Option SV := fun _ x => match x with
  | .dat (.dict ds) => (intsOf (ds.map Prod.fst)).bind fun ks => if ks.length < 64 then some (.dat (.list ((srtI ks).map PyData.int))) else none
  | _ => none
theorem keys_ints : ∀ {kvs : List (Key × V)} {ds : List (PyData × PyData)} {ks : List Int}, DqKv K G kvs ds → intsOf (ds.map Prod.fst) = some ks → kvs.map (·.1) = ks.map Sum.inl
  | _, _, _, .nil, h => by cases h; rfl
  | _, _, ks, .cons (k := k) _ r, h => by
    rw [List.map_cons] at h
    cases k with
    | inl i =>
      simp only [kD, intsOf] at h
      obtain ⟨js, h1, h2⟩ := Option.bind_eq_some_iff.mp h
      cases h2
      rw [List.map_cons, List.map_cons, keys_ints r h1]
    | inr x => simp [kD, intsOf] at h
theorem us_sortD : UnS K rSrtD fSortD := by
  intro M x z e F π G H v R s Q q
  unfold fSortD at e
  split at e
  · rename_i ds
    obtain ⟨ks, hk, e⟩ := Option.bind_eq_some_iff.mp e
    split at e
    case isFalse => cases e
    rename_i hl
    cases e
    cases s with
    | dat d =>
      cases d with
      | @dic a o kvs _ h hr =>
        exact ⟨a, kvs, ks, rfl, .inr ⟨o, R.ex _ _ h⟩, keys_ints hr hk, hl, fun p hp => q _ _ _ (.new hp) (.dat (.lst (SqL.of upd_same) (ints_all _)))⟩
  · cases e
/-! {k: v for ..} -/
def dcL (g : SG) (tt : SB) (kx vx : SE) (ρ : Rho) : List PyData → List (PyData × PyData) → Mem → Option (List (PyData × PyData) × Mem)
  | [], acc, M => some (acc, M)
  | d :: ds, acc, M => (g (.dat d) ρ M).bind fun y => (tt y.1 y.2).bind fun b => if b.1 = true then (kx y.1 b.2).bind fun k => (vx y.1 k.2).bind fun v => match k.1, v.1 with
      | .dat kd, .dat vd => (keyOf kd).bind fun kk => dcL g tt kx vx ρ ds (putD acc kk vd) v.2
      | _, _ => none
    else dcL g tt kx vx ρ ds acc b.2
def eDc (it : SI) (g : SG) (tt : SB) (kx vx : SE) (vs : List Nat) : SE := fun ρ M => (it ρ M).bind fun x => if x.1.length ≤ 100000 then (dcL g tt kx vx (wipeR ρ vs) x.1 [] x.2).bind fun z => some (.dat (.dict z.1), z.2) else none
theorem dc_core2 {wi : TI} {g : TG} {tt : TT} {it : SI} {sg : SG} {b : SB} {vs : List Nat} {tk tv : TE} {kx vx : SE} (hi : EvI K wi it) (hg : EvG K g sg) (hw : GW g vs) (ht : EvB K tt b) (hk : EvS K tk kx) (he : EvS K tv vx)
    {ρ : Rho} {M M1 M2 : Mem} {ds : List PyData} {out : List (PyData × PyData)} (e : it ρ M = some (ds, M1)) (hz : ds.length ≤ 100000) (e2 : dcL sg b kx vx (wipeR ρ vs) ds [] M1 = some (out, M2)) {F : Hp} {π : List Addr} {G H : Hp} {σ : L2.St} (R : Rel K F π G H M) (S : Slots K π G ρ σ) {Q : VK}
    (q : ∀ π' G' H' D vs', Gr π π' G G' → Rel K (upd F D (.dK vs')) π' G' H' M2 → F D = none → DqKv K G' vs' out → Q (.ref D) H') : tDc wi g tt tk tv vs σ H Q := by
  refine hi ρ M ds M1 e F π G H σ R S _ fun π1 G1 H1 J g1 R1 ok => ?_
  intro D hD
  have S1 := (S.gr g1).wiped vs
  have hF := R1.frNone hD
  let W : Nat → Hp → Prop := fun i H => ∃ M π' G' acc vs', i ≤ ds.length ∧ vs'.length ≤ i ∧ Gr π1 π' G1 G' ∧ Rel K (upd F D (.dK vs')) π' G' H M ∧ DqKv K G' vs' acc ∧ dcL sg b kx vx (wipeR ρ vs) (ds.drop i) acc M = some (out, M2)
  refine ⟨fun i m H => m = ds.length - i ∧ W i H, ⟨_, rfl, M1, π1, G1, [], [], Nat.zero_le _, Nat.le_refl _, Gr.refl, R1.frame hD, .nil, e2⟩, ?_⟩
  rintro i m H' ⟨rfl, M3, π', G', acc, vs', hle, hvl, g', R', hacc, hl⟩
  by_cases hlt : i < ds.length
  · refine .inr ⟨ok.go i H' (fun b o x => R'.ex b o (g'.s b o x)) hlt, W (i + 1), fun H'' w => ⟨ds.length - (i + 1), by omega, rfl, w⟩, fun x H'' y => ?_⟩
    obtain ⟨d, G3, e3, al, hd⟩ := ok.yld i H' x H'' G' g'.s R'.ex y hlt
    have ed : ds.drop i = d :: ds.drop (i + 1) := by
      rw [List.drop_eq_getElem_cons hlt]
      rw [List.getElem?_eq_getElem hlt] at e3
      cases e3; rfl
    rw [ed] at hl
    unfold dcL at hl
    obtain ⟨⟨ρ2, M4⟩, e4, hl⟩ := Option.bind_eq_some_iff.mp hl
    obtain ⟨⟨bv, M5⟩, e5, hl⟩ := Option.bind_eq_some_iff.mp hl
    have ga := Gr.of (π := π') (R'.alSame al)
    have hwi : wipe (wipe σ vs) vs = wipe σ vs := wipe_wipe σ vs vs (fun v hv => hv)
    have key : ∀ Q' : L2.St → Hp → Prop, (∀ π4 G4 H4 σ4, Gr π' π4 G3 G4 → Rel K (upd F D (.dK vs')) π4 G4 H4 M4 → Slots K π4 G4 ρ2 σ4 → Q' σ4 H4) → g x (wipe σ vs) H'' fun σ2 H2 => wipe σ2 vs = wipe σ vs ∧ Q' σ2 H2 := by
      intro Q' hQ
      have := hw x (wipe σ vs) H'' Q' (hg (.dat d) (wipeR ρ vs) M3 ρ2 M4 e4 (upd F D (.dK vs')) π' G3 H'' x (wipe σ vs) (R'.al al) (S1.gr (g'.trans ga)) (.dat hd) Q' hQ)
      rw [hwi] at this
      exact this
    refine key _ fun π4 G4 H4 σ4 g4 R4 S4 => ?_
    refine ht ρ2 M4 bv M5 e5 _ π4 G4 H4 σ4 R4 S4 _ fun π5 G5 H5 g5 R5 => ?_
    have gg := ((g'.trans ga).trans g4).trans g5
    have gh := (ga.trans g4).trans g5
    cases bv with
    | true =>
      rw [if_pos rfl]
      dsimp only at hl
      rw [if_pos rfl] at hl
      obtain ⟨⟨rk, M6⟩, e6, hl⟩ := Option.bind_eq_some_iff.mp hl
      obtain ⟨⟨rv, M7⟩, e7, hl⟩ := Option.bind_eq_some_iff.mp hl
      refine hk ρ2 M5 rk M6 e6 _ π5 G5 H5 σ4 R5 (S4.gr g5) _ fun π6 G6 H6 v6 g6 R6 s6 => ?_
      refine he ρ2 M6 rv M7 e7 _ π6 G6 H6 σ4 R6 (S4.gr (g5.trans g6)) _ fun π7 G7 H7 v7 g7 R7 s7 => ?_
      cases s6 with
      | cel _ => cases hl
      | @dat kd v6 hd6 =>
        cases s7 with
        | cel _ => cases hl
        | @dat vd v7 hd7 =>
          dsimp only at hl
          obtain ⟨kk, ek, hl⟩ := Option.bind_eq_some_iff.mp hl
          have ev := key_of hd6 ek
          subst ev
          refine ⟨vs', kk, rfl, (R7.fr D _ upd_same).1, szl (by omega), ?_⟩
          have hlen := length_putK vs' kk v7
          refine ⟨M7, π7, G7, putD acc kk vd, putK vs' kk v7, hlt, by omega, (gg.trans g6).trans g7, ?_, ((hacc.mono (gh.s.trans (g6.s.trans g7.s))).put hd7), hl⟩
          have := R7.framed (o' := .dK (putK vs' kk v7)) upd_same
          rw [upd_upd] at this
          exact this
    | false =>
      rw [if_neg Bool.false_ne_true]
      dsimp only at hl
      rw [if_neg Bool.false_ne_true] at hl
      exact ⟨M5, π5, G5, acc, vs', hlt, by omega, gg, R5, hacc.mono gh.s, hl⟩
  · have e : ds.drop i = [] := List.drop_of_length_le (by omega)
    rw [e] at hl
    unfold dcL at hl
    cases hl
    exact .inl ⟨ok.stop i H' (fun b o x => R'.ex b o (g'.s b o x)) (by omega), q π' G' H' D vs' (g1.trans g') R' hF hacc⟩
theorem ev_dc {wi : TI} {g : TG} {tt : TT} {it : SI} {sg : SG} {b : SB} {vs : List Nat} {tk tv : TE} {kx vx : SE} (hi : EvI K wi it) (hg : EvG K g sg) (hw : GW g vs) (ht : EvB K tt b) (hk : EvS K tk kx) (he : EvS K tv vx) : EvS K (tFrzE (tDc wi g tt tk tv vs)) (eDc it sg b kx vx vs) := by
  intro ρ M z M' h F π G H σ R S Q q
  unfold eDc at h
  obtain ⟨⟨ds, M1⟩, e, h⟩ := Option.bind_eq_some_iff.mp h
  split at h
  · rename_i hz
    dsimp only at hz
    obtain ⟨⟨out, M2⟩, e2, h⟩ := Option.bind_eq_some_iff.mp h
    cases h
    refine dc_core2 hi hg hw ht hk he e hz e2 R S fun π' G' H' D vs' g' R' hF hacc => ?_
    refine ⟨D, .dK vs', rfl, (R'.fr D _ upd_same).1, trivial, fun od => ?_⟩
    have R2 := R'.framed (o' := .frz od (.dK vs')) upd_same
    rw [upd_upd] at R2
    obtain ⟨R6, sg6⟩ := R2.unframe hF
    exact q π' _ _ _ (g'.trans (.of sg6)) R6 (.dat (.dic upd_same (hacc.mono sg6)))
  · cases h
/-! as a statement: the name a local -/
theorem ps_setDcF {X : Cx} {i : Nat} {y : Str} {py : Pos} {kx vx tg iter : Expr} {ifs : List Expr} {scope : Scope} {own : List (Str × Nat)} {pos spos : Pos} {wi : TI} {g : TG} {tt : TT} {tk tv : TE} (hc : X.calm = true) (hN : X.N.Nodup) (hy : X.N[i]? = some y) (hyl : X.env.scope.names.lookup y = some .local)
    (hsw : swapsWith (.DictComp kx vx [⟨tg, iter, ifs, 0⟩] scope pos) (some (.Name y py)) spos.line X.env = pure true) (hi : PI X tg iter wi) (ok : BlkOk X.N X.env.scope scope own)
    (hg : ∀ (s : Shared) (H : Hp) (C : Addr) (cl : List (Str × Addr)) (fp : List Addr), PG (X.blk s H scope (compEnvC scope cl C X.env) fp) tg g) (ht : ∀ (s : Shared) (H : Hp) (C : Addr) (cl : List (Str × Addr)) (fp : List Addr), PTs (X.blk s H scope (compEnvC scope cl C X.env) fp) ifs tt)
    (hk : ∀ (s : Shared) (H : Hp) (C : Addr) (cl : List (Str × Addr)) (fp : List Addr), PE (X.blk s H scope (compEnvC scope cl C X.env) fp) kx tk)
    (he : ∀ (s : Shared) (H : Hp) (C : Addr) (cl : List (Str × Addr)) (fp : List Addr), PE (X.blk s H scope (compEnvC scope cl C X.env) fp) vx tv) (hs : ∀ x, foldedSetIterable iter X.env x = pure x := by intro _; rfl) :
    PS X (.Assign [.Name y py] (.DictComp kx vx [⟨tg, iter, ifs, 0⟩] scope pos) spos) (tAsg (tDc wi g tt tk tv (own.map (·.2))) (gName i)) := by
  refine ⟨fun pins s σ H D I h => ?_⟩
  rw [exec_Assign_Name_used _ _ _ _ hsw]
  refine wpAny_bind (wpAny_standAt (wpAny_bind ?_))
  show wpAny _ X.A (do let _ ← comprehension (.DictComp kx vx [⟨tg, iter, ifs, 0⟩] scope pos) scope X.env (firstIterPos [⟨tg, iter, ifs, 0⟩] pos) newDict false (eval iter X.env) (some (assign (.Name y py) X.env))) _ _ s
  have h : tDc wi g tt tk tv (own.map (·.2)) σ H (fun x H1 => gName i x σ H1 D.nx) := h
  refine wpAny_bind (thn (dc_core (Qf := fun _ s' => SP X pins D .next s') hc hN I hi ok hg ht hk he hs h fun L C s' m H' I' q hn f => ?_) fun _ s' hq => wpAny_pure (wpAny_pure hq))
  show wpAny _ _ (assign (.Name y py) X.env (.ref L)) _ _ _
  refine wpAny_assign_Name (store_ok2 (v := V.ref L) I' hN hy (.inl hyl) rfl (fun s2 I2 ⟨a, sb, ha⟩ => ?_) (.inr hyl))
  obtain ⟨f0, f1, f2, f3, f4, f5⟩ := f
  have haC : C ≠ a := by
    rcases ha with z | z
    · rw [z]; exact f1
    · exact fun e => f4 y a z e.symm
  refine ⟨m, hn.sameBut sb haC, fun h3 sb3 => ?_⟩
  exact ⟨_, H', I2.turned (t' := s2.toks) (fun b o hb e => (sb3.2 b hb).trans e) f0 f1 f3 f4 f5, q⟩
theorem sw_trueD {kx vx : Expr} {gs : List Comprehension} {scope : Scope} {pos py : Pos} {y : Str} {l : Nat} {env : Env} (hk : env.scope.kind = .function) (hy : env.scope.names.lookup y = some .local) (hl : (py.line == pos.line) = true)
    (ha : (scope.names.any fun (n, k) => n == y && (k == .local || k == .cell)) = false) : swapsWith (.DictComp kx vx gs scope pos) (some (.Name y py)) l env = pure true := by
  have ky : env.kindOf y = some .local := hy
  have hb : env.blockKind = .function := by unfold Env.blockKind; rw [hk]; rfl
  unfold swapsWith
  simp only [hb, ky, ha, Expr.pos, hl]
  rfl
theorem et_assoc {t u r : TS} {s : SS} (h : EvT K (tSeq (tSeq t u) r) s) : EvT K (tSeq t (tSeq u r)) s := h
/-- behind a statement a thing is held still from then on -/
def tFrzS (t : TS) : TS := fun D σ H => t ⟨fun σ' H' => ∃ d u, H' d = some u ∧ Mut (some u) ∧ ∀ od, D.nx σ' (upd H' d (.frz od u)), D.rt, D.bk, D.ct⟩ σ H
theorem ps_frz {X : Cx} {st : Stmt} {t : TS} (h : PS X st t) : PS X st (tFrzS t) := by
  refine ⟨fun pins s σ H D I hw => ?_⟩
  refine thn (h.run pins s σ H _ I hw) fun f s1 q => ?_
  cases f with
  | next =>
    obtain ⟨σ', H', I2, d, u, hd, mu, q⟩ := q
    obtain ⟨od, I3⟩ := I2.lock hd mu
    exact ⟨σ', _, I3, q od⟩
  | brk => exact q
  | cont => exact q
  | ret v => exact q
/-- y = {k: v for ..} -/
def sDc (it : SI) (g : SG) (tt : SB) (kx vx : SE) (vs : List Nat) (i : Nat) : SS := fun ρ M => (eDc it g tt kx vx vs ρ M).bind fun z => some (.nx (ρ.set i (some z.1)) z.2)
theorem et_dc {wi : TI} {g : TG} {tt : TT} {it : SI} {sg : SG} {b : SB} {vs : List Nat} {i : Nat} {tk tv : TE} {kx vx : SE} (hi : EvI K wi it) (hg : EvG K g sg) (hw : GW g vs) (ht : EvB K tt b) (hk : EvS K tk kx) (he : EvS K tv vx) : EvT K (tFrzS (tAsg (tDc wi g tt tk tv vs) (gName i))) (sDc it sg b kx vx vs i) := by
  intro ρ M c h F π G H σ R S D q
  unfold sDc eDc at h
  obtain ⟨⟨z, M'⟩, h0, h⟩ := Option.bind_eq_some_iff.mp h
  cases h
  obtain ⟨⟨ds, M1⟩, e, h⟩ := Option.bind_eq_some_iff.mp h0
  split at h
  · rename_i hz
    dsimp only at hz
    obtain ⟨⟨out, M2⟩, e2, h⟩ := Option.bind_eq_some_iff.mp h
    cases h
    refine (?_ : tDc wi g tt tk tv vs σ H (fun x H1 => gName i x σ H1 (fun σ' H' => ∃ d u, H' d = some u ∧ Mut (some u) ∧ ∀ od, D.nx σ' (upd H' d (.frz od u)))))
    refine dc_core2 hi hg hw ht hk he e hz e2 R S fun π' G' H' D' vs' g' R' hF hacc => ?_
    refine ⟨D', .dK vs', (R'.fr D' _ upd_same).1, trivial, fun od => ?_⟩
    have R2 := R'.framed (o' := .frz od (.dK vs')) upd_same
    rw [upd_upd] at R2
    obtain ⟨R6, sg6⟩ := R2.unframe hF
    exact q π' _ _ _ (g'.trans (.of sg6)) R6 ((S.gr (g'.trans (.of sg6))).set (.dat (.dic upd_same (hacc.mono sg6))) i)
  · cases h
/-- y = {k: v for ..}; y[k] = v (names alone) -/
def sDcPut (it : SI) (g : SG) (tt : SB) (kx vx : SE) (vs : List Nat) (i j l : Nat) : SS := fun ρ M => (eDc it g tt kx vx vs ρ M).bind fun z => match z.1, ρ[j]?, ρ[l]? with
  | .dat (.dict ds), some (some (.dat k)), some (some (.dat v)) => if i ≠ j ∧ i ≠ l ∧ i < ρ.length ∧ ds.length < 100000 then (keyOf k).bind fun kk => some (.nx (ρ.set i (some (.dat (.dict (putD ds kk v))))) z.2) else none
  | _, _, _ => none
theorem et_dcPut {wi : TI} {g : TG} {tt : TT} {it : SI} {sg : SG} {b : SB} {vs : List Nat} {i j l : Nat} {tk tv : TE} {kx vx : SE} (hi : EvI K wi it) (hg : EvG K g sg) (hw : GW g vs) (ht : EvB K tt b) (hk : EvS K tk kx) (he : EvS K tv vx) : EvT K (tSeq (tAsg (tDc wi g tt tk tv vs) (gName i)) (tFrzS (sDPut (tVar i) (tVar j) (tVar l)))) (sDcPut it sg b kx vx vs i j l) := by
  intro ρ M c h F π G H σ R S D q
  unfold sDcPut eDc at h
  obtain ⟨⟨z, M'⟩, h0, h⟩ := Option.bind_eq_some_iff.mp h
  obtain ⟨⟨ds, M1⟩, e, h0⟩ := Option.bind_eq_some_iff.mp h0
  split at h0
  case isFalse => cases h0
  rename_i hz
  dsimp only at hz
  obtain ⟨⟨out, M2⟩, e2, h0⟩ := Option.bind_eq_some_iff.mp h0
  cases h0
  dsimp only at h
  split at h
  case h_2 => cases h
  rename_i out' k v ez ej el
  cases ez
  split at h
  case isFalse => cases h
  rename_i hcond
  obtain ⟨n1, n2, n3, n4⟩ := hcond
  obtain ⟨kk, hkk, h⟩ := Option.bind_eq_some_iff.mp h
  cases h
  refine (?_ : tDc wi g tt tk tv vs σ H (fun x H1 => gName i x σ H1 (tFrzS (sDPut (tVar i) (tVar j) (tVar l)) D)))
  refine dc_core2 hi hg hw ht hk he e hz e2 R S fun π' G' H' D' vs' g' R' hF hacc => ?_
  have S' := S.gr g'
  obtain ⟨yj, hyj, sj⟩ := S'.get ej
  obtain ⟨yl, hyl, sl⟩ := S'.get el
  cases sj with
  | dat dj =>
    cases sl with
    | dat dl =>
      have ek := key_of dj hkk
      subst ek
      have hlen : i < σ.length := by rw [← S'.length]; exact n3
      refine ⟨_, by rw [List.getElem?_set_ne n2]; exact hyl, _, by rw [List.getElem?_set_self hlen], _, by rw [List.getElem?_set_ne n1]; exact hyj, D', upd H' D' (.dK (putK vs' kk yl)), rfl, DPut.k (R'.fr D' _ upd_same).1 (szl (by rw [hacc.length]; exact n4)), D', .dK (putK vs' kk yl), upd_same, trivial, fun od => ?_⟩
      rw [upd_upd]
      have R2 := R'.framed (o' := .frz od (.dK (putK vs' kk yl))) upd_same
      rw [upd_upd] at R2
      obtain ⟨R6, sg6⟩ := R2.unframe hF
      exact q π' _ _ _ (g'.trans (.of sg6)) R6 ((S.gr (g'.trans (.of sg6))).set (.dat (.dic upd_same ((hacc.put dl).mono sg6))) i)
end
end Sm

/-! SmX16: enumerate of a list or a tuple. -/
namespace PySem
open Sem (wp)
theorem meets_enumerate_new1 {v : Value} {o : Obj} {H : Heap → Prop} (B : Begins v o H) :
    Meets (Builtin.«enumerate.__new__» ⟨[.type "enumerate", v], []⟩) (fun _ R s => H s.heap ∧
      R (.ok (.ret (.ref (s.heap.push o).objs.size))) { s with heap := (s.heap.push o).push { cls := .type "enumerate", data := .fields #[.none, .bool false, .ref s.heap.objs.size, rawInt 0, .none, .none] } }) :=
  .of_wp fun prog w A R s h => by
    obtain ⟨hp, g, d, tk, os⟩ := s; obtain ⟨h1, h⟩ := h
    have hsub := sub_enumerate
    have q1 : ∀ {A' : Around} {E : Value → Shared → Prop} {Q : Value → Shared → Prop}, Q (.ref hp.objs.size) ⟨hp.push o, g, d, tk, os⟩ → wpAny (model prog w) A' (pyIter v) Q E ⟨hp, g, d, tk, os⟩ :=
      fun q => B.iter prog w _ _ ⟨hp, g, d, tk, os⟩ _ h1 q
    wp_walk using q1
    refine wpAny_stack_any fun st => wpAny_pure ?_
    split
    · rename_i c _ _ _ _ _
      cases (c == Value.type "enumerate")
      · wp_walk using q1
        exact ⟨_, rfl, h⟩
      · wp_walk using q1
        exact ⟨_, rfl, h⟩
    · wp_walk using q1
      exact ⟨_, rfl, h⟩
theorem enum_begins1 {prog : Program} {w : World} {A : Around} {E : Value → Shared → Prop} {s : Shared} {v : Value} {o : Obj} {H : Heap → Prop} {Q : Value → Shared → Prop} (B : Begins v o H) (h1 : H s.heap)
    (h : ∀ h', IsEnum h' (s.heap.objs.size + 1) s.heap.objs.size 0 .none → h'.get? s.heap.objs.size = some o → h'.objs.size = s.heap.objs.size + 2 →
      (∀ b o, s.heap.get? b = some o → h'.get? b = some o) → Q (.ref (s.heap.objs.size + 1)) { s with heap := h' }) :
    wpAny (model prog w) A (call (.type "enumerate") [v]) Q E s := by
  refine callType_new F.called_enumerate (by decide) (F.typeCall_enumerate_1 _) (F.newCall_enumerate_1 _) (fun obj => F.args_object_init_2 obj _) F.entry_enumerate_new
    (meets_enumerate_new1 B) ⟨h1, ?_⟩
  have hz : (s.heap.push o).objs.size = s.heap.objs.size + 1 := Heap.size_push ..
  show _ ∧ _
  rw [hz]
  have he : IsEnum ((s.heap.push o).push { cls := .type "enumerate", data := .fields #[.none, .bool false, .ref s.heap.objs.size, rawInt 0, .none, .none] }) (s.heap.objs.size + 1) s.heap.objs.size 0 .none := by
    have := Heap.get?_push_size (s.heap.push o) (o := { cls := .type "enumerate", data := .fields #[.none, .bool false, .ref s.heap.objs.size, rawInt 0, .none, .none] }) rfl
    rw [hz] at this; exact this
  refine ⟨⟨_, he, rfl⟩, h _ he (Heap.get?_push_of_some _ (Heap.get?_push_size _ B.free)) (by rw [Heap.size_push, hz]) fun b o x => Heap.get?_push_of_some _ (Heap.get?_push_of_some _ x)⟩
end PySem
namespace Sm
open PySem PySem.Spec PyProof.Rows L2
def IteM (K : PySem.W.Frag) (k : Bool) (n : Nat) (a : Addr) : It :=
  ⟨fun i H => ∃ (xs : List V) (x : V), SqB K k H a xs ∧ xs.length = n ∧ xs[i]? = some x,
    fun i H v H' => ∃ T x, v = .ref T ∧ H T = none ∧ H' = upd H T (.tup [.int (i : Nat), x]) ∧ (∀ xs, SqB K k H a xs → xs[i]? = some x),
    fun i H => ∃ xs : List V, SqB K k H a xs ∧ xs.length = n ∧ n ≤ i⟩
theorem turn_enumM {P : Program} {w : World} {K : PySem.W.Frag} {elts : List Expr} {kk : Nat} {tpos : Pos} {k : Bool} {n : Nat} (a e it : Addr) (hae : a ≠ e) (hai : a ≠ it) :
    Turn P w K (.Tuple elts kk tpos) (IteM K k n a) [e, it] e (fun i h => (∃ old, IsEnum h e it ((i : Nat) : Int) old) ∧ itB k h it a i ∧ e ≠ it ∧ i ≤ n) where
  mem := by simp
  obj := fun i h st b hb => by
    obtain ⟨⟨old, he⟩, hi, _, _⟩ := st
    have e' : b = e ∨ b = it := by simpa using hb
    rcases e' with z | z
    · rw [z]; exact ⟨_, he, fun v q => nomatch q⟩
    · rw [z]; exact itB.obj hi
  keep := fun i h h' st k => let ⟨⟨old, he⟩, hi, hne, hle⟩ := st; ⟨⟨old, k e (by simp) _ he⟩, hi.at fun o q => k it (by simp) o q, hne, hle⟩
  item := by
    intro X hP hw hK hc i pins s σ H E I hf st hg
    subst hP hw hK
    obtain ⟨⟨old, he⟩, hit, hne, hle⟩ := st
    obtain ⟨xs, x, hq, hn, hx⟩ := hg
    obtain ⟨its, o1, Hh1, rv, B1, _, lt1, p1, _, dr1⟩ := seqB I hq
    obtain ⟨u, hu, ru⟩ := rv.get hx
    have hel : e < s.heap.objs.size := Heap.lt_size he
    have hil : it < s.heap.objs.size := by obtain ⟨_, q, _⟩ := itB.obj hit; exact Heap.lt_size q
    have hh := I.ok.hd hc
    have li : i < its.length := (List.getElem?_eq_some_iff.mp hu).1
    refine wpAny_pyNext_enum_itemC (dr1 _ it hh hai) he ⟨hit, p1⟩ li hne (by simp [hne, Ne.symm hae]) fun x' h' tk y1 ho hit' hT hsz hk => ?_
    rw [hu] at y1
    cases y1
    refine ⟨_, rfl, wpAny_letOwnedTupleGo_enum (s := { s with heap := h', toks := tk + 1 }) ho fun h'' he' sb => ?_⟩
    have hT2 : h''.get? s.heap.objs.size = some { cls := .type "tuple", data := .seq #[.int i tk, u] } := (sb.2 _ (Nat.ne_of_gt hel)).trans hT
    have new : ObjOk X.prog X.w (upd H s.heap.objs.size (.tup [.int (i : Nat), x])) h'' s.heap.objs.size (.tup [.int (i : Nat), x]) :=
      ⟨by show 2 ≤ sizeLine; decide, [.int i tk, u], .cons ⟨_, rfl⟩ (.cons ru .nil), ⟨_, hT2, rfl, _, rfl⟩⟩
    have I1 : Inv X pins σ (upd H s.heap.objs.size (.tup [.int (i : Nat), x])) { s with heap := h'', toks := tk + 1 } :=
      I.turnedNew (ch := [e, it]) (fun b ob hb q => (sb.2 b (fun z => hb (by simp [z]))).trans (hk b ob (fun z => hb (by simp [z])) (fun z => hb (by simp [z])) q)) hf (Nat.le_refl _) new
    refine ⟨.ref s.heap.objs.size, _, I1, rfl, ⟨_, x, rfl, I.hok.fresh (Nat.le_refl _), rfl, fun ys hy => by rw [sqB_inj I hy hq]; exact hx⟩, ⟨⟨u, ?_⟩, hit'.1.at fun o q => (sb.2 it (Ne.symm hne)).trans q, hne, ?_⟩, fun b hb => ?_⟩
    · have e1 : ((i + 1 : Nat) : Int) = (i : Int) + 1 := by omega
      rw [e1]; exact he'
    · have := rv.length; omega
    · have hb' : b < s.heap.objs.size := by
        have e' : b = e ∨ b = it := by simpa using hb
        rcases e' with z | z
        · rw [z]; exact hel
        · rw [z]; exact hil
      rw [upd_ne (Nat.ne_of_lt hb')]
      exact (hf b hb).1
  done := by
    intro X hP hw hK hc i pins s σ H E I hf st hg
    subst hP hw hK
    obtain ⟨⟨old, he⟩, hit, hne, hle⟩ := st
    obtain ⟨xs, hq, hn, hx⟩ := hg
    obtain ⟨its, o1, Hh1, rv, B1, _, lt1, p1, _, dr1⟩ := seqB I hq
    obtain ⟨f0, f1, f2, f3, f4, f5⟩ := hf it (by simp)
    have hl := rv.length
    have hi : i = its.length := by omega
    subst hi
    exact wpAny_pyNext_enum_endD (dr1 _ it (I.ok.hd hc) hai) he ⟨hit, p1⟩ fun h' eb => ⟨rfl, I.turned (t' := s.toks) (fun b o hb q => eb b o hb q) f0 f1 f3 f4 f5⟩
  self := fun A i s Q E st h => let ⟨⟨_, he⟩, _⟩ := st; wpAny_pyIter_enum he h
def iEnumM (K : PySem.W.Frag) (ta : TA) : TI := fun σ H R => ta σ H fun vs H1 => ∃ a k xs, vs = [.ref a] ∧ SqB K k H1 a xs ∧ R (IteM K k xs.length a) H1
theorem pi_enumM {X : Cx} {e : Expr} {ta : TA} {p pos tpos : Pos} {elts : List Expr} {kk : Nat} (hg : Gl X "enumerate") (hm : X.mg "enumerate" = none) (ha : PA X [e] ta) (hs : starEach [e] X.env = [(false, eval e X.env)] := by rfl) :
    PI X (.Tuple elts kk tpos) (.Call (.Name "enumerate" p) [e] [] pos) (iEnumM X.K ta) := by
  refine ⟨fun pins s σ H R I h => ?_⟩
  refine Call_ (ld_blt I hg hm boot_enumerate (PyProof.Rows.callWith_type1 (thn (ha.run pos pins s σ H _ I h) fun us s1 ⟨vs, H1, I1, r1, q1⟩ => ?_) hs rfl))
  obtain ⟨a, k, xs, ex, hq, q⟩ := q1
  subst ex
  cases r1 with
  | cons r rr =>
    cases rr
    cases r
    obtain ⟨its, o1, Hh1, rv, B1, hb1, lt1, p1, n1, _⟩ := seqB I1 hq
    refine enum_begins1 B1 hb1 fun h' he g1 hsz hk => wpAny_pyIter_enum he ?_
    have I2 : Inv X pins σ H1 { s1 with heap := h' } := I1.kept (t' := s1.toks) hk
    refine ⟨s1.heap.objs.size + 1, [s1.heap.objs.size + 1, s1.heap.objs.size], _, _, H1, rfl, I2, turn_enumM a (s1.heap.objs.size + 1) s1.heap.objs.size (Nat.ne_of_lt (Nat.lt_succ_of_lt lt1)) (Nat.ne_of_lt lt1), ⟨⟨.none, he⟩, n1 _ _ g1, Nat.succ_ne_self _, Nat.zero_le _⟩, fun b hb => ?_, q⟩
    have e' : b = s1.heap.objs.size + 1 ∨ b = s1.heap.objs.size := by simpa using hb
    have hle : s1.heap.objs.size ≤ b := by
      rcases e' with z | z
      · rw [z]; exact Nat.le_add_right _ _
      · rw [z]; exact Nat.le_refl _
    exact I1.fpOk hle (I1.hok.fresh hle)
section
variable {K : PySem.W.Frag}
theorem iteM_ok {G : Hp} {l : Addr} {xs : List V} {ds : List PyData} {k : Bool} (hs : SqB K k G l xs) (ha : DqAll K G xs ds) : ItOk K G (IteM K k xs.length l) (enumD ds) where
  go := fun i H e hi => by
    rw [enumD_len] at hi
    have h1 : i < xs.length := by rw [ha.length]; exact hi
    exact ⟨xs, xs[i], sqB_mono e hs, rfl, List.getElem?_eq_getElem h1⟩
  stop := fun i H e hi => by
    rw [enumD_len] at hi
    exact ⟨xs, sqB_mono e hs, rfl, by rw [ha.length]; exact hi⟩
  yld := fun i H x H' G2 e1 e2 y hi => by
    obtain ⟨T, x1, rfl, nT, rfl, h1⟩ := y
    obtain ⟨d, q1, q2⟩ := ha.get (h1 xs (sqB_mono (e1.trans e2) hs))
    have hn : Same G2 (upd G2 T (.tup [.int (i : Nat), x1])) := same_upd (none_of_same e2 nT)
    exact ⟨_, upd G2 T (.tup [.int (i : Nat), x1]), enumD_get q1, .new nT, .tup (SqT.of upd_same) (.cons (.int _) (.cons ((q2.mono e1).mono hn) .nil))⟩
def iEnM (a : SA) : SI := fun ρ M => (a ρ M).bind fun x => match x.1 with
  | [.dat d] => (seqD d).bind fun ds => some (enumD ds, x.2)
  | _ => none
theorem ei_enM {ta : TA} {a : SA} (ha : EvA K ta a) : EvI K (iEnumM K ta) (iEnM a) := by
  intro ρ M z M' h F π G H σ R S Q q
  unfold iEnM at h
  obtain ⟨⟨x, N1⟩, h1, hh⟩ := Option.bind_eq_some_iff.mp h
  clear h
  dsimp only at hh
  split at hh
  · rename_i d
    obtain ⟨ds, e1, hh⟩ := Option.bind_eq_some_iff.mp hh
    cases hh
    refine ha ρ M _ _ h1 F π G H σ R S _ fun π1 G1 H1 v1 g1 R1 s1 => ?_
    cases s1 with
    | cons s1 s2 =>
      cases s2
      cases s1 with
      | dat d =>
        obtain ⟨k, a, vs, rfl, sa, da⟩ := seqB_of d e1
        exact ⟨a, k, vs, rfl, sqB_mono R1.ex sa, q π1 G1 H1 _ g1 R1 (iteM_ok sa da)⟩
  · cases hh
end
end Sm

/-! SmX17: a live list is walked, or held against []; x is True. -/
namespace Sm
open PySem PySem.Spec PyProof.Rows L2
section
variable {K : PySem.W.Frag}
def fNeM : Mem → SV → SV → Option SV := fun M x y => match x, y with
  | .cel c, .dat (.list []) => match M[c]? with
    | some (some xs) => some (.dat (.bool (!xs.isEmpty)))
    | _ => none
  | x, y => lift2 dNeZ M x y
theorem os_neM : OpS K (rNeZ K) fNeM := by
  intro M x y z e F π G H v w R sx sy Q q
  unfold fNeM at e
  split at e
  · rename_i c
    split at e
    · rename_i xs hx
      cases e
      cases sx with
      | @cel _ a ea =>
        obtain ⟨a', vs, h1, h2, h3, h4, h5⟩ := R.mem c xs hx
        rw [ea] at h1; cases h1
        cases sy with
        | dat dy =>
          cases dy with
          | @lst b ys _ hs ha =>
            cases ha
            cases xs with
            | nil =>
              cases h5
              have l1 := SqL.of (K := K) h4
              have hs' := R.ex.seq hs
              exact .inr (.inl ⟨.list [], .list [], Dq.dp (Same.refl H) (.list []) (.ref a) (SeqAt.canLay_of_shaped (by decide)) (.lst l1 .nil), Dq.dp R.ex (.list []) (.ref b) (SeqAt.canLay_of_shaped (by decide)) (.lst hs .nil), by decide, by decide, q G H _ .same (.dat (.bl _))⟩)
            | cons x xs =>
              refine .inl ⟨_, _, _, _, rfl, rfl, SqL.of h4, R.ex.seq hs, ?_, q G H _ .same (.dat (.bl _))⟩
              rw [← h5.length]
              exact Nat.succ_ne_zero _
    · cases e
  · exact os_neZ M _ _ z e F π G H v w R sx sy Q q
def dIsB : PyData → PyData → Option PyData
  | .bool a, .bool b => some (.bool (decide (a = b)))
  | _, _ => none
def rIsB' : R2 := fun x y H Q => ∃ a b, x = .bl a ∧ y = .bl b ∧ Q (.bl (decide (a = b))) H
theorem os_isB : OpS K rIsB' (lift2 dIsB) := os_lift (by
  intro x y z e G H v w sm dx dy Q q
  cases dy <;> (cases dx <;> first | cases e | skip)
  all_goals exact ⟨_, _, rfl, rfl, q G H _ .same (.bl _)⟩)
/-! a live list is walked -/
def loopC (g : SG) (body : SS) (k : Nat) : Nat → Nat → SS
  | 0, _ => fun _ _ => none
  | n + 1, i => fun ρ M => match M[k]? with
    | some (some xs) => match xs[i]? with
      | none => some (.nx ρ M)
      | some x => (g x ρ M).bind fun y => (body y.1 y.2).bind fun c => match c with
        | .nx ρ2 M2 => loopC g body k n (i + 1) ρ2 M2
        | .ct ρ2 M2 => loopC g body k n (i + 1) ρ2 M2
        | .bk ρ2 M2 => some (.nx ρ2 M2)
        | .rt r M2 => some (.rt r M2)
    | _ => none
def sForA (a : SE) (g : SG) (body : SS) : SS := fun ρ M => (a ρ M).bind fun x => match x.1 with
  | .cel k => loopC g body k 1001 0 ρ x.2
  | .dat _ => sFor (iDat a) g body ρ M
theorem et_forA {ta : TE} {a : SE} {g : TG} {sg : SG} {t : TS} {s : SS} (ha : EvS K ta a) (hg : EvG K g sg) (hb : EvT K t s) : EvT K (tFor (iSq K ta) g t) (sForA a sg s) := by
  intro ρ M c h F π G H σ R S D q
  unfold sForA at h
  obtain ⟨⟨x, M1⟩, e, h⟩ := Option.bind_eq_some_iff.mp h
  cases x with
  | dat d => exact et_for (ei_sq ha) hg hb ρ M c h F π G H σ R S D q
  | cel k =>
    refine ha ρ M _ M1 e F π G H σ R S _ fun π1 G1 H1 v1 g1 R1 s1 => ?_
    cases s1 with
    | @cel _ a ea =>
    have S1 := S.gr g1
    have q1 := EndOk.gr g1 q
    clear q S g1 e
    have h1 : ∃ xs, M1[k]? = some (some xs) := by
      have h' := h
      unfold loopC at h'
      dsimp only at h'
      split at h'
      · rename_i xs hx; exact ⟨xs, hx⟩
      · cases h'
    obtain ⟨xs1, hx1⟩ := h1
    obtain ⟨a', vs, e1, e2, e3, e4, e5⟩ := R1.mem k xs1 hx1
    rw [ea] at e1; cases e1
    refine ⟨a, rfl, .inl ⟨⟨vs, SqL.of e4⟩, ?_⟩⟩
    let W : Nat → Nat → L2.St → Hp → Prop := fun n i σ H => ∃ ρ M π' G', Gr π1 π' G1 G' ∧ Rel K F π' G' H M ∧ Slots K π' G' ρ σ ∧ loopC sg s k n i ρ M = some c
    refine ⟨fun i m σ H => W m i σ H, ⟨1001, ρ, M1, π1, G1, Gr.refl, R1, S1, h⟩, ?_⟩
    rintro i m σ' H' ⟨ρ', M', π', G', g', R', S', hl⟩
    cases m with
    | zero => cases hl
    | succ n =>
      unfold loopC at hl
      split at hl
      · rename_i xs hx
        obtain ⟨a', vs, e1, e2, e3, e4, e5⟩ := R'.mem k xs hx
        have ea' : π'[k]? = some a := by
          obtain ⟨m, rfl⟩ := g'.p
          exact ix_app ea
        rw [ea'] at e1; cases e1
        split at hl
        · rename_i hn
          cases hl
          have hlen : vs.length ≤ i := by
            rw [← e5.length]
            exact List.getElem?_eq_none_iff.mp hn
          exact .inl ⟨⟨vs, SqL.of e4, hlen⟩, q1 π' G' H' σ' g' R' S'⟩
        · rename_i x hn
          obtain ⟨v, hv, sv⟩ := e5.get hn
          refine .inr ⟨⟨vs, v, SqL.of e4, hv⟩, W n (i + 1), fun σ'' H'' w => ⟨n, by omega, w⟩, fun y H'' hy => ?_⟩
          obtain ⟨rfl, hy⟩ := hy
          have : y = v := by
            have := hy vs (SqL.of e4)
            rw [hv] at this; cases this; rfl
          subst this
          obtain ⟨⟨ρ2, M2⟩, ee, hl⟩ := Option.bind_eq_some_iff.mp hl
          obtain ⟨kk, ek, hl⟩ := Option.bind_eq_some_iff.mp hl
          refine hg x ρ' M' ρ2 M2 ee F π' G' _ y σ' R' S' sv _ fun π4 G4 H4 σ4 g4 R4 S4 => ?_
          have gg := g'.trans g4
          refine hb ρ2 M2 kk ek F π4 G4 H4 σ4 R4 S4 _ ?_
          cases kk with
          | nx ρ5 M5 => exact fun π5 G5 H5 σ5 g5 R5 S5 => ⟨ρ5, M5, π5, G5, gg.trans g5, R5, S5, hl⟩
          | ct ρ5 M5 => exact fun π5 G5 H5 σ5 g5 R5 S5 => ⟨ρ5, M5, π5, G5, gg.trans g5, R5, S5, hl⟩
          | bk ρ5 M5 =>
            cases hl
            exact fun π5 G5 H5 σ5 g5 R5 S5 => q1 π5 G5 H5 σ5 (gg.trans g5) R5 S5
          | rt r M5 =>
            cases hl
            exact fun π5 G5 H5 σ5 g5 R5 S5 => q1 π5 G5 H5 σ5 (gg.trans g5) R5 S5
      · cases hl
end
end Sm

/-! SmR: rows by a prime, what they make, plain forms. -/
namespace RR
abbrev Rw := Nat → Int
def Cg (p : Nat) (v w : Rw) : Prop := ∀ j, (p : Int) ∣ v j - w j
theorem Cg.refl {p : Nat} (v : Rw) : Cg p v v := fun j => ⟨0, by simp⟩
theorem Cg.symm {p : Nat} {v w : Rw} (h : Cg p v w) : Cg p w v := fun j => by
  obtain ⟨a, ha⟩ := h j
  exact ⟨-a, by grind⟩
theorem Cg.trans {p : Nat} {u v w : Rw} (h : Cg p u v) (g : Cg p v w) : Cg p u w := fun j => by
  obtain ⟨a, ha⟩ := h j
  obtain ⟨b, hb⟩ := g j
  exact ⟨a + b, by grind⟩
theorem Cg.lin {p : Nat} {u v u' v' : Rw} (h : Cg p u u') (g : Cg p v v') (k : Int) : Cg p (fun j => u j + k * v j) (fun j => u' j + k * v' j) := fun j => by
  obtain ⟨a, ha⟩ := h j
  obtain ⟨b, hb⟩ := g j
  exact ⟨a + k * b, by grind⟩
/-! ### rows that rows make -/
inductive Made (p : Nat) (R : List Rw) : Rw → Prop
  | zero {v : Rw} : Cg p v (fun _ => 0) → Made p R v
  | add {v w r : Rw} (k : Int) : Made p R v → r ∈ R → Cg p w (fun j => v j + k * r j) → Made p R w
section
variable {p : Nat} {R S : List Rw} {v w : Rw}
theorem Made.cg (m : Made p R v) (h : Cg p w v) : Made p R w := by
  cases m with
  | zero h0 => exact .zero (h.trans h0)
  | add k m hr hw => exact .add k m hr (h.trans hw)
theorem Made.nil : Made p R (fun _ => 0) := .zero (Cg.refl _)
theorem Made.lin (m : Made p R v) (n : Made p R w) (k : Int) : Made p R (fun j => v j + k * w j) := by
  induction n with
  | zero h0 =>
    refine m.cg fun j => ?_
    obtain ⟨a, ha⟩ := h0 j
    exact ⟨k * a, by grind⟩
  | @add w0 w1 r i _ hr hw ih =>
    refine .add (k * i) ih hr fun j => ?_
    obtain ⟨a, ha⟩ := hw j
    exact ⟨k * a, by grind⟩
theorem Made.of (h : v ∈ R) : Made p R v := .add 1 Made.nil h fun j => ⟨0, by simp⟩
theorem Made.trans (h : ∀ r ∈ R, Made p S r) (m : Made p R v) : Made p S v := by
  induction m with
  | zero h0 => exact .zero h0
  | add k _ hr hw ih => exact (ih.lin (h _ hr) k).cg hw
theorem Made.mono (h : ∀ r ∈ R, r ∈ S) (m : Made p R v) : Made p S v := m.trans fun r hr => Made.of (h r hr)
theorem Made.smul (m : Made p R v) (k : Int) : Made p R (fun j => k * v j) := (Made.nil.lin m k).cg fun j => ⟨0, by simp⟩
end
/-! ### combinations by the rests at first places -/
def cmb (v : Rw) : List (Nat × Rw) → Rw
  | [], _ => 0
  | cr :: F, j => v cr.1 * cr.2 j + cmb v F j
theorem cmb_zero {v : Rw} {j : Nat} : ∀ {F : List (Nat × Rw)}, (∀ cr ∈ F, v cr.1 * cr.2 j = 0) → cmb v F j = 0
  | [], _ => rfl
  | cr :: F, h => by
    unfold cmb
    rw [h cr List.mem_cons_self, cmb_zero fun x hx => h x (List.mem_cons_of_mem _ hx)]; rfl
theorem cmb_one {v s : Rw} {c j : Nat} : ∀ {F : List (Nat × Rw)}, (F.map Prod.fst).Nodup → (c, s) ∈ F → (∀ cr ∈ F, cr.1 ≠ c → v cr.1 * cr.2 j = 0) → cmb v F j = v c * s j
  | cr :: F, hd, hm, h0 => by
    rw [List.map_cons, List.nodup_cons] at hd
    unfold cmb
    rcases List.mem_cons.mp hm with e | e
    · subst e
      rw [cmb_zero (F := F) fun x hx => ?_, Int.add_zero]
      exact h0 x (List.mem_cons_of_mem _ hx) fun e => hd.1 (by show c ∈ _; rw [← e]; exact List.mem_map_of_mem hx)
    · have hne : cr.1 ≠ c := fun z => hd.1 (z ▸ List.mem_map.mpr ⟨(c, s), e, rfl⟩)
      rw [h0 cr List.mem_cons_self hne, Int.zero_add]
      exact cmb_one hd.2 e fun x hx => h0 x (List.mem_cons_of_mem _ hx)
theorem cmb_lin {v w : Rw} {k : Int} (j : Nat) : ∀ F : List (Nat × Rw), cmb (fun i => v i + k * w i) F j = cmb v F j + k * cmb w F j
  | [] => by simp [cmb]
  | cr :: F => by
    show (v cr.1 + k * w cr.1) * cr.2 j + cmb (fun i => v i + k * w i) F j = (v cr.1 * cr.2 j + cmb v F j) + k * (w cr.1 * cr.2 j + cmb w F j)
    rw [cmb_lin j F]; grind
theorem cmb_cg {p : Nat} {v w : Rw} (j : Nat) : ∀ F : List (Nat × Rw), (∀ cr ∈ F, (p : Int) ∣ v cr.1 - w cr.1) → (p : Int) ∣ cmb v F j - cmb w F j
  | [], _ => ⟨0, by simp [cmb]⟩
  | cr :: F, h => by
    obtain ⟨a, ha⟩ := cmb_cg j F fun x hx => h x (List.mem_cons_of_mem _ hx)
    obtain ⟨b, hb⟩ := h cr List.mem_cons_self
    refine ⟨b * cr.2 j + a, ?_⟩
    show (v cr.1 * cr.2 j + cmb v F j) - (w cr.1 * cr.2 j + cmb w F j) = _
    grind
theorem cmb_made {p : Nat} {v : Rw} : ∀ F : List (Nat × Rw), Made p (F.map Prod.snd) (cmb v F)
  | [] => Made.nil
  | cr :: F => by
    have ih := (cmb_made (p := p) (v := v) F).mono (S := (cr :: F).map Prod.snd) fun r hr => by
      rw [List.map_cons]; exact List.mem_cons_of_mem _ hr
    refine .add (v cr.1) ih (by rw [List.map_cons]; exact List.mem_cons_self) fun j => ?_
    show (p : Int) ∣ (v cr.1 * cr.2 j + cmb v F j) - (cmb v F j + v cr.1 * cr.2 j)
    exact ⟨0, by grind⟩
/-- a row that the plain form makes: its rests at the first places are the factors -/
def InS (p : Nat) (F : List (Nat × Rw)) (v : Rw) : Prop := Cg p v (cmb v F)
theorem InS.zero {p : Nat} {F : List (Nat × Rw)} : InS p F fun _ => 0 := fun j => by
  rw [cmb_zero fun cr _ => Int.zero_mul _]
  exact ⟨0, by simp⟩
theorem InS.lin {p : Nat} {F : List (Nat × Rw)} {v w : Rw} (hv : InS p F v) (hw : InS p F w) (k : Int) : InS p F fun i => v i + k * w i := fun j => by
  rw [cmb_lin]
  obtain ⟨a, ha⟩ := hv j
  obtain ⟨b, hb⟩ := hw j
  exact ⟨a + k * b, by grind⟩
theorem InS.cg {p : Nat} {F : List (Nat × Rw)} {v w : Rw} (hv : InS p F v) (h : Cg p w v) : InS p F w := fun j => by
  obtain ⟨a, ha⟩ := hv j
  obtain ⟨b, hb⟩ := h j
  obtain ⟨c, hc⟩ := cmb_cg (p := p) (v := w) (w := v) j F fun cr _ => h cr.1
  exact ⟨a + b - c, by grind⟩
theorem Made.inS {p : Nat} {R : List Rw} {F : List (Nat × Rw)} (h : ∀ r ∈ R, InS p F r) {v : Rw} (m : Made p R v) : InS p F v := by
  induction m with
  | zero h => exact InS.zero.cg h
  | add k _ hr hw ih => exact (InS.lin ih (h _ hr) k).cg hw
/-! ### lists of rests -/
abbrev fn (l : List Int) : Rw := fun j => l.getD j 0
def Bd (p n : Nat) (l : List Int) : Prop := l.length = n ∧ ∀ z ∈ l, 0 ≤ z ∧ z < (p : Int)
theorem small_eq {p : Nat} {a b : Int} (ha : 0 ≤ a ∧ a < (p : Int)) (hb : 0 ≤ b ∧ b < (p : Int)) (h : (p : Int) ∣ a - b) : a = b := by
  obtain ⟨q, hq⟩ := h
  have : q = 0 := by
    rcases Int.lt_trichotomy q 0 with z | z | z
    · have : (p : Int) * q ≤ (p : Int) * (-1) := Int.mul_le_mul_of_nonneg_left (by omega) (by omega)
      omega
    · exact z
    · have : (p : Int) * 1 ≤ (p : Int) * q := Int.mul_le_mul_of_nonneg_left (by omega) (by omega)
      omega
  rw [this, Int.mul_zero] at hq
  omega
theorem Bd.at {p n : Nat} {l : List Int} (hp : 0 < p) (h : Bd p n l) (j : Nat) : 0 ≤ fn l j ∧ fn l j < (p : Int) := by
  show 0 ≤ l.getD j 0 ∧ l.getD j 0 < (p : Int)
  rw [List.getD_eq_getElem?_getD]
  cases e : l[j]? with
  | none => simp; omega
  | some z => exact h.2 z (List.mem_of_getElem? e)
theorem Bd.big {p n : Nat} {l : List Int} (h : Bd p n l) {j : Nat} (hj : n ≤ j) : fn l j = 0 := by
  show l.getD j 0 = 0
  rw [List.getD_eq_getElem?_getD, List.getElem?_eq_none (by rw [h.1]; exact hj)]; rfl
theorem Bd.ext {p n : Nat} (hp : 0 < p) {a b : List Int} (ha : Bd p n a) (hb : Bd p n b) (h : ∀ j, j < n → (p : Int) ∣ fn a j - fn b j) : a = b := by
  refine List.ext_getElem (by rw [ha.1, hb.1]) fun j h1 h2 => ?_
  have := small_eq (ha.at hp j) (hb.at hp j) (h j (by rw [← ha.1]; exact h1))
  have e1 : fn a j = a[j] := by show a.getD j 0 = _; rw [List.getD_eq_getElem?_getD, List.getElem?_eq_getElem h1]; rfl
  have e2 : fn b j = b[j] := by show b.getD j 0 = _; rw [List.getD_eq_getElem?_getD, List.getElem?_eq_getElem h2]; rfl
  rw [← e1, ← e2, this]
def plus (p : Nat) (f : Int) (a b : List Int) : List Int := (a.zip b).map fun q => (q.1 + f * q.2) % (p : Int)
theorem plus_bd {p n : Nat} (hp : 0 < p) {f : Int} {a b : List Int} (ha : a.length = n) (hb : b.length = n) : Bd p n (plus p f a b) := by
  refine ⟨by simp [plus, ha, hb], fun z hz => ?_⟩
  obtain ⟨q, _, rfl⟩ := List.mem_map.mp hz
  exact ⟨Int.emod_nonneg _ (by omega), Int.emod_lt_of_pos _ (by omega)⟩
theorem dvd_emod (p a : Int) : p ∣ a % p - a := by
  have := Int.emod_add_mul_ediv a p
  exact ⟨-(a / p), by grind⟩
theorem plus_cg {p : Nat} {f : Int} {a b : List Int} (h : a.length = b.length) : Cg p (fn (plus p f a b)) (fun j => fn a j + f * fn b j) := fun j => by
  show (p : Int) ∣ (plus p f a b).getD j 0 - (a.getD j 0 + f * b.getD j 0)
  rw [List.getD_eq_getElem?_getD, List.getD_eq_getElem?_getD, List.getD_eq_getElem?_getD]
  unfold plus
  rw [List.getElem?_map]
  by_cases hj : j < a.length
  · have hz : (a.zip b)[j]? = some (a[j], b[j]) := by
      rw [List.getElem?_eq_getElem (by rw [List.length_zip]; omega), List.getElem_zip]
    rw [hz, List.getElem?_eq_getElem hj, List.getElem?_eq_getElem (h ▸ hj)]
    exact dvd_emod _ _
  · rw [List.getElem?_eq_none (by rw [List.length_zip]; omega), List.getElem?_eq_none (by omega), List.getElem?_eq_none (by omega)]
    exact ⟨0, by simp⟩
/-! ### plain forms -/
structure PF (p n : Nat) (G : List (Nat × List Int)) : Prop where
  nd : (G.map Prod.fst).Nodup
  bd : ∀ g ∈ G, Bd p n g.2
  lt : ∀ g ∈ G, g.1 < n
  one : ∀ g ∈ G, fn g.2 g.1 = 1
  lead : ∀ g ∈ G, ∀ j, j < g.1 → fn g.2 j = 0
  other : ∀ g ∈ G, ∀ h ∈ G, g.1 ≠ h.1 → fn g.2 h.1 = 0
abbrev toF (G : List (Nat × List Int)) : List (Nat × Rw) := G.map fun g => (g.1, fn g.2)
theorem toF_fst (G : List (Nat × List Int)) : (toF G).map Prod.fst = G.map Prod.fst := by rw [List.map_map]; rfl
theorem toF_snd (G : List (Nat × List Int)) : (toF G).map Prod.snd = (G.map Prod.snd).map fn := by rw [List.map_map, List.map_map]; rfl
/-- what rows make -/
def Sp (p : Nat) (R : List (List Int)) (v : Rw) : Prop := Made p (R.map fn) v
abbrev rws (G : List (Nat × List Int)) : List (List Int) := G.map Prod.snd
theorem PF.nil {p n : Nat} : PF p n [] := ⟨List.nodup_nil, (fun _ h => nomatch h), (fun _ h => nomatch h), (fun _ h => nomatch h), (fun _ h => nomatch h), (fun _ h => nomatch h)⟩
section
variable {p n : Nat} {G : List (Nat × List Int)}
theorem PF.tail {g : Nat × List Int} (h : PF p n (g :: G)) : PF p n G :=
  ⟨(List.nodup_cons.mp h.nd).2, fun x hx => h.bd x (List.mem_cons_of_mem _ hx), fun x hx => h.lt x (List.mem_cons_of_mem _ hx), fun x hx => h.one x (List.mem_cons_of_mem _ hx), fun x hx => h.lead x (List.mem_cons_of_mem _ hx), fun x hx y hy => h.other x (List.mem_cons_of_mem _ hx) y (List.mem_cons_of_mem _ hy)⟩
theorem PF.perm {G' : List (Nat × List Int)} (h : PF p n G) (e : G'.Perm G) : PF p n G' :=
  ⟨((e.map Prod.fst).nodup_iff).mpr h.nd, fun x hx => h.bd x (e.mem_iff.mp hx), fun x hx => h.lt x (e.mem_iff.mp hx), fun x hx => h.one x (e.mem_iff.mp hx), fun x hx => h.lead x (e.mem_iff.mp hx), fun x hx y hy => h.other x (e.mem_iff.mp hx) y (e.mem_iff.mp hy)⟩
theorem sp_perm {R S : List (List Int)} (e : R.Perm S) (v : Rw) : Sp p R v ↔ Sp p S v :=
  ⟨fun h => Made.mono (fun r hr => ((e.map fn).mem_iff).mp hr) h, fun h => Made.mono (fun r hr => ((e.map fn).mem_iff).mpr hr) h⟩
theorem PF.cmb_at (h : PF p n G) {g : Nat × List Int} (hg : g ∈ G) (v : Rw) : cmb v (toF G) g.1 = v g.1 := by
  rw [cmb_one (c := g.1) (s := fn g.2) (by rw [toF_fst]; exact h.nd) (List.mem_map.mpr ⟨g, hg, rfl⟩) fun cr hcr hne => ?_, h.one g hg, Int.mul_one]
  obtain ⟨x, hx, rfl⟩ := List.mem_map.mp hcr
  show v x.1 * fn x.2 g.1 = 0
  rw [h.other x hx g hg hne, Int.mul_zero]
theorem PF.own (h : PF p n G) {g : Nat × List Int} (hg : g ∈ G) : InS p (toF G) (fn g.2) := fun j => by
  rw [cmb_one (c := g.1) (s := fn g.2) (by rw [toF_fst]; exact h.nd) (List.mem_map.mpr ⟨g, hg, rfl⟩) fun cr hcr hne => ?_, h.one g hg, Int.one_mul]
  · exact ⟨0, by simp⟩
  · obtain ⟨x, hx, rfl⟩ := List.mem_map.mp hcr
    show fn g.2 x.1 * fn x.2 j = 0
    rw [h.other g hg x hx (Ne.symm hne), Int.zero_mul]
theorem PF.inS (h : PF p n G) {v : Rw} : Sp p (rws G) v ↔ InS p (toF G) v := by
  constructor
  · intro m
    refine Made.inS (fun r hr => ?_) m
    obtain ⟨l, hl, rfl⟩ := List.mem_map.mp hr
    obtain ⟨g, hg, rfl⟩ := List.mem_map.mp hl
    exact h.own hg
  · intro m
    have := cmb_made (p := p) (v := v) (toF G)
    rw [toF_snd] at this
    exact Made.cg this m
end
/-! ### what is left -/
def clr (p : Nat) (row : List Int) (c : Nat) (o : List Int) : List Int := if row.getD c 0 = 0 then row else plus p (-(row.getD c 0)) row o
def lov (p : Nat) : List (Nat × List Int) → List Int → List Int
  | [], v => v
  | g :: G, v => lov p G (clr p v g.1 g.2)
section
variable {p n : Nat} {G : List (Nat × List Int)}
theorem clr_bd (hp : 0 < p) {v o : List Int} {c : Nat} (hv : Bd p n v) (ho : Bd p n o) : Bd p n (clr p v c o) := by
  unfold clr
  split
  · exact hv
  · exact plus_bd hp hv.1 ho.1
theorem clr_cg {v o : List Int} {c : Nat} (hl : v.length = o.length) : Cg p (fn (clr p v c o)) (fun j => fn v j + (-(fn v c)) * fn o j) := by
  unfold clr
  split
  · rename_i h
    have h' : fn v c = 0 := h
    intro j
    rw [h']
    exact ⟨0, by simp⟩
  · exact plus_cg hl
theorem lov_ok (hp : 0 < p) : ∀ {G : List (Nat × List Int)} {v : List Int}, PF p n G → Bd p n v → Bd p n (lov p G v) ∧ Cg p (fn (lov p G v)) (fun j => fn v j + (-1) * cmb (fn v) (toF G) j)
  | [], v, _, hv => ⟨hv, fun j => by
      show (p : Int) ∣ fn v j - (fn v j + (-1) * 0)
      exact ⟨0, by grind⟩⟩
  | g :: G, v, h, hv => by
    have hg := h.bd g List.mem_cons_self
    have hw := clr_bd (c := g.1) hp hv hg
    obtain ⟨b, cg⟩ := lov_ok hp h.tail hw
    refine ⟨b, Cg.trans cg fun j => ?_⟩
    have c1 := clr_cg (p := p) (v := v) (o := g.2) (c := g.1) (by rw [hv.1, hg.1])
    have c2 := cmb_cg (p := p) (v := fn (clr p v g.1 g.2)) (w := fn v) j (toF G) fun cr hcr => by
      obtain ⟨x, hx, rfl⟩ := List.mem_map.mp hcr
      have z : fn g.2 x.1 = 0 := h.other g List.mem_cons_self x (List.mem_cons_of_mem _ hx) fun e => (List.nodup_cons.mp h.nd).1 (e ▸ List.mem_map_of_mem hx)
      have := c1 x.1
      dsimp only at this
      rw [z, Int.mul_zero, Int.add_zero] at this
      exact this
    obtain ⟨a, ha⟩ := c1 j
    obtain ⟨d, hd⟩ := c2
    show (p : Int) ∣ (fn (clr p v g.1 g.2) j + (-1) * cmb (fn (clr p v g.1 g.2)) (toF G) j) - (fn v j + (-1) * (fn v g.1 * fn g.2 j + cmb (fn v) (toF G) j))
    exact ⟨a - d, by grind⟩
theorem lov_lead (hp : 0 < p) (h : PF p n G) {v : List Int} (hv : Bd p n v) {g : Nat × List Int} (hg : g ∈ G) : fn (lov p G v) g.1 = 0 := by
  obtain ⟨b, cg⟩ := lov_ok hp h hv
  have := cg g.1
  dsimp only at this
  rw [h.cmb_at hg] at this
  refine small_eq (b.at hp _) ⟨Int.le_refl 0, by omega⟩ ?_
  obtain ⟨a, ha⟩ := this
  exact ⟨a, by grind⟩
theorem lov_zero (hp : 0 < p) (h : PF p n G) {v : List Int} (hv : Bd p n v) : (∀ j, j < n → fn (lov p G v) j = 0) ↔ Sp p (rws G) (fn v) := by
  obtain ⟨b, cg⟩ := lov_ok hp h hv
  rw [h.inS]
  constructor
  · intro hz j
    have := cg j
    dsimp only at this
    rw [show fn (lov p G v) j = 0 from if hj : j < n then hz j hj else b.big (by omega)] at this
    obtain ⟨a, ha⟩ := this
    exact ⟨-a, by grind⟩
  · intro m j _
    refine small_eq (b.at hp j) ⟨Int.le_refl 0, by omega⟩ ?_
    obtain ⟨a, ha⟩ := cg j
    obtain ⟨c, hc⟩ := m j
    exact ⟨a + c, by grind⟩
/-- the row and what is left of it -/
theorem lov_sp (hp : 0 < p) (h : PF p n G) {v : List Int} (hv : Bd p n v) {R : List Rw} (hR : ∀ g ∈ G, fn g.2 ∈ R) : Made p R (fn v) ↔ Made p R (fn (lov p G v)) := by
  obtain ⟨b, cg⟩ := lov_ok hp h hv
  have m : Made p R (cmb (fn v) (toF G)) := (cmb_made (p := p) (v := fn v) (toF G)).mono fun r hr => by
    rw [toF_snd] at hr
    obtain ⟨l, hl, rfl⟩ := List.mem_map.mp hr
    obtain ⟨g, hg, rfl⟩ := List.mem_map.mp hl
    exact hR g hg
  constructor
  · intro k
    exact (k.lin m (-1)).cg cg
  · intro k
    refine (k.lin m 1).cg fun j => ?_
    obtain ⟨a, ha⟩ := cg j
    exact ⟨-a, by grind⟩
end
/-! ### one row more -/
def fresh (p n : Nat) (inv : Int) (left : List Int) : List Int := plus p inv (List.replicate n 0) left
def grw (p n : Nat) (G : List (Nat × List Int)) (c : Nat) (inv : Int) (left : List Int) : List (Nat × List Int) := (G.map fun g => (g.1, clr p g.2 c (fresh p n inv left))) ++ [(c, fresh p n inv left)]
theorem fn_rep (n j : Nat) : fn (List.replicate n 0) j = 0 := by
  show (List.replicate n (0 : Int)).getD j 0 = 0
  rw [List.getD_eq_getElem?_getD, List.getElem?_replicate]
  split <;> rfl
section
variable {p n : Nat} {G : List (Nat × List Int)} {c : Nat} {inv : Int} {left : List Int}
theorem fresh_bd (hp : 0 < p) (hl : Bd p n left) : Bd p n (fresh p n inv left) := plus_bd hp (by simp) hl.1
theorem fresh_cg (hl : Bd p n left) : Cg p (fn (fresh p n inv left)) (fun j => inv * fn left j) := fun j => by
  have := plus_cg (p := p) (f := inv) (a := List.replicate n 0) (b := left) (by rw [List.length_replicate, hl.1]) j
  dsimp only at this
  rw [fn_rep, Int.zero_add] at this
  exact this
theorem fresh_zero (hp : 0 < p) (hl : Bd p n left) {j : Nat} (h : fn left j = 0) : fn (fresh p n inv left) j = 0 := by
  refine small_eq ((fresh_bd hp hl).at hp j) ⟨Int.le_refl 0, by omega⟩ ?_
  have := fresh_cg (p := p) (inv := inv) hl j
  dsimp only at this
  rw [h, Int.mul_zero] at this
  exact this
theorem fresh_one (hp : 2 ≤ p) (hl : Bd p n left) (hi : (p : Int) ∣ fn left c * inv - 1) : fn (fresh p n inv left) c = 1 := by
  refine small_eq ((fresh_bd (by omega) hl).at (by omega) c) ⟨by omega, by omega⟩ ?_
  obtain ⟨a, ha⟩ := fresh_cg (p := p) (inv := inv) hl c
  obtain ⟨b, hb⟩ := hi
  exact ⟨a + b, by grind⟩
theorem PF.grow (hp : 2 ≤ p) (h : PF p n G) (hl : Bd p n left) (h0 : ∀ g ∈ G, fn left g.1 = 0) (hc : c < n) (hz : ∀ j, j < c → fn left j = 0) (hn : fn left c ≠ 0) (hi : (p : Int) ∣ fn left c * inv - 1) : PF p n (grw p n G c inv left) := by
  have fb := fresh_bd (inv := inv) (by omega : 0 < p) hl
  have f1 := fresh_one hp hl hi
  have f0 : ∀ j, fn left j = 0 → fn (fresh p n inv left) j = 0 := fun j hj => fresh_zero (by omega) hl hj
  generalize hF : fresh p n inv left = F at fb f1 f0
  have key : ∀ g ∈ G, ∀ j, fn (clr p g.2 c F) j = fn g.2 j ∨ (fn F j ≠ 0 ∧ fn g.2 c ≠ 0) := fun g hg j => by
    by_cases z : fn F j = 0
    · left
      have bg := h.bd g hg
      refine small_eq ((clr_bd (by omega) bg fb).at (by omega) j) (bg.at (by omega) j) ?_
      have := clr_cg (p := p) (v := g.2) (o := F) (c := c) (by rw [bg.1, fb.1]) j
      dsimp only at this
      rw [z, Int.mul_zero, Int.add_zero] at this
      exact this
    · by_cases z2 : fn g.2 c = 0
      · left
        have z3 : g.2.getD c 0 = 0 := z2
        unfold clr
        rw [if_pos z3]
      · exact .inr ⟨z, z2⟩
  have atc : ∀ g ∈ G, fn (clr p g.2 c F) c = 0 := fun g hg => by
    have bg := h.bd g hg
    refine small_eq ((clr_bd (by omega) bg fb).at (by omega) c) ⟨Int.le_refl 0, by omega⟩ ?_
    have := clr_cg (p := p) (v := g.2) (o := F) (c := c) (by rw [bg.1, fb.1]) c
    dsimp only at this
    rw [f1] at this
    obtain ⟨a, ha⟩ := this
    exact ⟨a, by grind⟩
  have mem : ∀ x ∈ grw p n G c inv left, (∃ g ∈ G, x = (g.1, clr p g.2 c F)) ∨ x = (c, F) := fun x hx => by
    unfold grw at hx
    rw [hF] at hx
    rcases List.mem_append.mp hx with q | q
    · obtain ⟨g, hg, rfl⟩ := List.mem_map.mp q
      exact .inl ⟨g, hg, rfl⟩
    · rw [List.mem_singleton] at q; exact .inr q
  have ck : c ∉ G.map Prod.fst := fun z => by
    obtain ⟨g, hg, e⟩ := List.mem_map.mp z
    have := h0 g hg
    rw [e] at this
    exact hn this
  refine ⟨?_, fun x hx => ?_, fun x hx => ?_, fun x hx => ?_, fun x hx j hj => ?_, fun x hx y hy hne => ?_⟩
  · unfold grw
    rw [List.map_append, List.map_map, List.map_singleton, List.nodup_append]
    refine ⟨h.nd, List.nodup_cons.mpr ⟨List.not_mem_nil, List.nodup_nil⟩, ?_⟩
    intro a ha b hb e
    rw [List.mem_singleton] at hb
    have hb' : b = c := hb
    exact ck (by rw [← hb', ← e]; exact ha)
  · rcases mem x hx with ⟨g, hg, rfl⟩ | rfl
    · exact clr_bd (by omega) (h.bd g hg) fb
    · exact fb
  · rcases mem x hx with ⟨g, hg, rfl⟩ | rfl
    · exact h.lt g hg
    · exact hc
  · rcases mem x hx with ⟨g, hg, rfl⟩ | rfl
    · show fn (clr p g.2 c F) g.1 = 1
      rcases key g hg g.1 with e | ⟨e, _⟩
      · rw [e]; exact h.one g hg
      · exact absurd (f0 g.1 (h0 g hg)) e
    · exact f1
  · rcases mem x hx with ⟨g, hg, rfl⟩ | rfl
    · show fn (clr p g.2 c F) j = 0
      rcases key g hg j with e | ⟨e, e2⟩
      · rw [e]; exact h.lead g hg j hj
      · exfalso
        by_cases hjc : j < c
        · exact e (f0 j (hz j hjc))
        · exact e2 (h.lead g hg c (by have : j < g.1 := hj; omega))
    · exact f0 j (hz j hj)
  · rcases mem x hx with ⟨g, hg, rfl⟩ | rfl
    · rcases mem y hy with ⟨k, hk, rfl⟩ | rfl
      · show fn (clr p g.2 c F) k.1 = 0
        rcases key g hg k.1 with e | ⟨e, _⟩
        · rw [e]; exact h.other g hg k hk hne
        · exact absurd (f0 k.1 (h0 k hk)) e
      · exact atc g hg
    · rcases mem y hy with ⟨k, hk, rfl⟩ | rfl
      · exact f0 k.1 (h0 k hk)
      · exact absurd rfl hne
theorem grw_sp (hp : 2 ≤ p) (h : PF p n G) (hl : Bd p n left) (hi : (p : Int) ∣ fn left c * inv - 1) (v : Rw) : Sp p (rws (grw p n G c inv left)) v ↔ Made p (fn left :: (rws G).map fn) v := by
  have fb := fresh_bd (inv := inv) (by omega : 0 < p) hl
  have fc := fresh_cg (p := p) (inv := inv) hl
  unfold Sp
  have er : (rws (grw p n G c inv left)).map fn = (G.map fun g => fn (clr p g.2 c (fresh p n inv left))) ++ [fn (fresh p n inv left)] := by
    unfold grw rws
    rw [List.map_append, List.map_append, List.map_map, List.map_map]; rfl
  rw [er]
  generalize hF : fresh p n inv left = F at fb fc
  have ec : ∀ g ∈ G, Cg p (fn (clr p g.2 c F)) (fun j => fn g.2 j + (-(fn g.2 c)) * fn F j) := fun g hg => clr_cg (by rw [(h.bd g hg).1, fb.1])
  constructor
  · intro m
    refine m.trans fun r hr => ?_
    have mF : Made p (fn left :: (rws G).map fn) (fn F) := (Made.smul (Made.of List.mem_cons_self) inv).cg fc
    rcases List.mem_append.mp hr with q | q
    · obtain ⟨g, hg, rfl⟩ := List.mem_map.mp q
      refine ((Made.of (List.mem_cons_of_mem _ (List.mem_map.mpr ⟨g.2, List.mem_map_of_mem hg, rfl⟩))).lin mF (-(fn g.2 c))).cg (ec g hg)
    · rw [List.mem_singleton] at q; rw [q]; exact mF
  · intro m
    refine m.trans fun r hr => ?_
    have mF : Made p ((G.map fun g => fn (clr p g.2 c F)) ++ [fn F]) (fn F) := Made.of (List.mem_append_right _ List.mem_cons_self)
    rcases List.mem_cons.mp hr with q | q
    · rw [q]
      refine (mF.smul (fn left c)).cg fun j => ?_
      obtain ⟨a, ha⟩ := fc j
      obtain ⟨b, hb⟩ := hi
      exact ⟨-(b * fn left j) - fn left c * a, by grind⟩
    · obtain ⟨l, hl', rfl⟩ := List.mem_map.mp q
      obtain ⟨g, hg, rfl⟩ := List.mem_map.mp hl'
      have mg : Made p ((G.map fun g => fn (clr p g.2 c F)) ++ [fn F]) (fn (clr p g.2 c F)) := Made.of (List.mem_append_left _ (List.mem_map.mpr ⟨g, hg, rfl⟩))
      refine (mg.lin mF (fn g.2 c)).cg fun j => ?_
      obtain ⟨a, ha⟩ := ec g hg j
      exact ⟨-a, by grind⟩
end
/-! ### there is one plain form at most -/
theorem PF.first {p n : Nat} (hp : 2 ≤ p) {F G : List (Nat × List Int)} (hF : PF p n F) (hG : PF p n G) (h : ∀ g ∈ F, Sp p (rws G) (fn g.2)) {c : Nat} (hc : c ∈ F.map Prod.fst) : c ∈ G.map Prod.fst := by
  obtain ⟨⟨c', r⟩, hm, rfl⟩ := List.mem_map.mp hc
  refine Classical.byContradiction fun hn => ?_
  have z : cmb (fn r) (toF G) c' = 0 := cmb_zero fun ds hds => by
    obtain ⟨x, hx, rfl⟩ := List.mem_map.mp hds
    show fn r x.1 * fn x.2 c' = 0
    rcases Nat.lt_trichotomy x.1 c' with q | q | q
    · rw [hF.lead _ hm x.1 q, Int.zero_mul]
    · exact absurd (List.mem_map.mpr ⟨x, hx, q⟩) hn
    · rw [hG.lead _ hx c' q, Int.mul_zero]
  have o : fn r c' = 1 := hF.one _ hm
  have := (hG.inS.mp (h _ hm)) c'
  rw [show fn (c', r).2 = fn r from rfl, z, o] at this
  obtain ⟨k, hk⟩ := this
  have : (p : Int) ∣ 1 := ⟨k, by omega⟩
  have := Int.le_of_dvd (by decide) this
  omega
theorem rising_eqN : ∀ {l1 l2 : List Nat}, l1.Pairwise (· < ·) → l2.Pairwise (· < ·) → (∀ x, x ∈ l1 ↔ x ∈ l2) → l1 = l2
  | [], [], _, _, _ => rfl
  | [], b :: l2, _, _, h => absurd ((h b).mpr List.mem_cons_self) List.not_mem_nil
  | a :: l1, [], _, _, h => absurd ((h a).mp List.mem_cons_self) List.not_mem_nil
  | a :: l1, b :: l2, h1, h2, h => by
    obtain ⟨a1, a2⟩ := List.pairwise_cons.mp h1
    obtain ⟨b1, b2⟩ := List.pairwise_cons.mp h2
    have e : a = b := by
      rcases List.mem_cons.mp ((h a).mp List.mem_cons_self) with q | q
      · exact q
      · rcases List.mem_cons.mp ((h b).mpr List.mem_cons_self) with r | r
        · exact r.symm
        · have := b1 a q; have := a1 b r; omega
    subst e
    rw [rising_eqN a2 b2 fun x => ?_]
    constructor
    · intro hx
      rcases List.mem_cons.mp ((h x).mp (List.mem_cons_of_mem _ hx)) with q | q
      · have := a1 x hx; omega
      · exact q
    · intro hx
      rcases List.mem_cons.mp ((h x).mpr (List.mem_cons_of_mem _ hx)) with q | q
      · have := b1 x hx; omega
      · exact q
theorem pairs_eq {α β : Type} : ∀ {F G : List (α × β)}, F.map Prod.fst = G.map Prod.fst → (∀ (i : Nat) (a b : α × β), F[i]? = some a → G[i]? = some b → a.2 = b.2) → F = G
  | [], [], _, _ => rfl
  | [], _ :: _, h, _ => by simp at h
  | _ :: _, [], h, _ => by simp at h
  | a :: F, b :: G, h, hr => by
    rw [List.map_cons, List.map_cons] at h
    injection h with h1 h2
    rw [pairs_eq h2 fun i x y hx hy => hr (i + 1) x y (by simpa using hx) (by simpa using hy), Prod.ext h1 (hr 0 a b rfl rfl)]
/-- two plain forms, rising, that make each other's rows are one -/
theorem PF.eq {p n : Nat} (hp : 2 ≤ p) {F G : List (Nat × List Int)} (hF : PF p n F) (hG : PF p n G) (rF : (F.map Prod.fst).Pairwise (· < ·)) (rG : (G.map Prod.fst).Pairwise (· < ·)) (h1 : ∀ g ∈ F, Sp p (rws G) (fn g.2)) (h2 : ∀ g ∈ G, Sp p (rws F) (fn g.2)) : F = G := by
  have hc : F.map Prod.fst = G.map Prod.fst := rising_eqN rF rG fun x => ⟨fun h => hF.first hp hG h1 h, fun h => hG.first hp hF h2 h⟩
  refine pairs_eq hc fun i a b ha hb => ?_
  have ma := List.mem_of_getElem? ha
  have mb := List.mem_of_getElem? hb
  have e : a.1 = b.1 := by
    have ea : (F.map Prod.fst)[i]? = some a.1 := by rw [List.getElem?_map, ha]; rfl
    have eb : (G.map Prod.fst)[i]? = some b.1 := by rw [List.getElem?_map, hb]; rfl
    rw [hc, eb] at ea
    injection ea with ea
    exact ea.symm
  refine (hF.bd a ma).ext (by omega) (hG.bd b mb) fun j _ => ?_
  have k := (hG.inS.mp (h1 a ma)) j
  rw [cmb_one (c := b.1) (s := fn b.2) (by rw [toF_fst]; exact hG.nd) (List.mem_map.mpr ⟨b, mb, rfl⟩) (fun cr hcr hne => by
    obtain ⟨x, hx, rfl⟩ := List.mem_map.mp hcr
    show fn a.2 x.1 * fn x.2 j = 0
    have : x.1 ∈ F.map Prod.fst := by rw [hc]; exact List.mem_map_of_mem hx
    obtain ⟨y, hy, ey⟩ := List.mem_map.mp this
    have hne' : x.1 ≠ b.1 := hne
    rw [← ey, hF.other a ma y hy (by omega), Int.zero_mul])] at k
  rw [← e, hF.one a ma, Int.one_mul] at k
  exact k
theorem PF.length {p n : Nat} (hp : 2 ≤ p) {F G : List (Nat × List Int)} (hF : PF p n F) (hG : PF p n G) (h : ∀ v, Sp p (rws F) v ↔ Sp p (rws G) v) : F.length = G.length := by
  have own : ∀ {F : List (Nat × List Int)} (g : Nat × List Int), g ∈ F → Sp p (rws F) (fn g.2) := fun g hg => Made.of (List.mem_map.mpr ⟨g.2, List.mem_map_of_mem hg, rfl⟩)
  have sub : ∀ {F G : List (Nat × List Int)}, PF p n F → PF p n G → (∀ v, Sp p (rws F) v ↔ Sp p (rws G) v) → F.length ≤ G.length := by
    intro F G hF hG h
    have key : ∀ (l fs : List Nat), l.Nodup → (∀ a ∈ l, a ∈ fs) → l.length ≤ fs.length := by
      intro l
      induction l with
      | nil => intro _ _ _; exact Nat.zero_le _
      | cons a l ih =>
        intro fs hn hs
        obtain ⟨h1, h2⟩ := List.nodup_cons.mp hn
        have ha := hs a List.mem_cons_self
        have := ih (fs.erase a) h2 fun c hc => (List.mem_erase_of_ne (fun e : c = a => h1 (e ▸ hc))).mpr (hs c (List.mem_cons_of_mem _ hc))
        rw [List.length_erase_of_mem ha] at this
        have hpos : 0 < fs.length := List.length_pos_of_mem ha
        rw [List.length_cons]; omega
    have := key (F.map Prod.fst) (G.map Prod.fst) hF.nd fun c hc => hF.first hp hG (fun g hg => (h _).mp (own g hg)) hc
    rwa [List.length_map, List.length_map] at this
  exact Nat.le_antisymm (sub hF hG h) (sub hG hF fun v => (h v).symm)
/-- so many first places as there are: all is made -/
theorem PF.full {p n : Nat} (hp : 0 < p) {G : List (Nat × List Int)} (h : PF p n G) (hl : G.length = n) {v : List Int} (hv : Bd p n v) : Sp p (rws G) (fn v) := by
  have all : ∀ j, j < n → ∃ g ∈ G, g.1 = j := by
    intro j hj
    refine Classical.byContradiction fun hn => ?_
    have nd : (j :: G.map Prod.fst).Nodup := List.nodup_cons.mpr ⟨fun z => by
      obtain ⟨g, hg, e⟩ := List.mem_map.mp z
      exact hn ⟨g, hg, e⟩, h.nd⟩
    have key : ∀ (l : List Nat), l.Nodup → (∀ a ∈ l, a < n) → l.length ≤ n := by
      intro l hnd hs
      have aux : ∀ (l fs : List Nat), l.Nodup → (∀ a ∈ l, a ∈ fs) → l.length ≤ fs.length := by
        intro l
        induction l with
        | nil => intro _ _ _; exact Nat.zero_le _
        | cons a l ih =>
          intro fs hn hs
          obtain ⟨h1, h2⟩ := List.nodup_cons.mp hn
          have ha := hs a List.mem_cons_self
          have := ih (fs.erase a) h2 fun c hc => (List.mem_erase_of_ne (fun e : c = a => h1 (e ▸ hc))).mpr (hs c (List.mem_cons_of_mem _ hc))
          rw [List.length_erase_of_mem ha] at this
          have hpos : 0 < fs.length := List.length_pos_of_mem ha
          rw [List.length_cons]; omega
      have := aux l (List.range n) hnd fun a ha => List.mem_range.mpr (hs a ha)
      rwa [List.length_range] at this
    have := key _ nd fun a ha => by
      rcases List.mem_cons.mp ha with z | z
      · rw [z]; exact hj
      · obtain ⟨g, hg, rfl⟩ := List.mem_map.mp z
        exact h.lt g hg
    rw [List.length_cons, List.length_map] at this
    omega
  rw [h.inS]
  intro j
  by_cases hj : j < n
  · obtain ⟨g, hg, rfl⟩ := all j hj
    rw [h.cmb_at hg]
    exact ⟨0, by simp⟩
  · rw [hv.big (by omega), cmb_zero fun cr hcr => ?_]
    · exact ⟨0, by simp⟩
    · obtain ⟨x, hx, rfl⟩ := List.mem_map.mp hcr
      show fn v x.1 * fn x.2 j = 0
      rw [(h.bd x hx).big (by omega), Int.mul_zero]
/-! ### the plain form of rows -/
/-- G is the plain form, rising, of what R makes -/
structure IsPf (p n : Nat) (R : List (List Int)) (G : List (Nat × List Int)) : Prop where
  pf : PF p n G
  rise : (G.map Prod.fst).Pairwise (· < ·)
  sp : ∀ v, Sp p (rws G) v ↔ Sp p R v
theorem own_sp {p : Nat} {G : List (Nat × List Int)} {g : Nat × List Int} (hg : g ∈ G) : Sp p (rws G) (fn g.2) := Made.of (List.mem_map.mpr ⟨g.2, List.mem_map_of_mem hg, rfl⟩)
theorem IsPf.eq {p n : Nat} (hp : 2 ≤ p) {R S : List (List Int)} {F G : List (Nat × List Int)} (hF : IsPf p n R F) (hG : IsPf p n S G) (h : ∀ v, Sp p R v ↔ Sp p S v) : F = G :=
  hF.pf.eq hp hG.pf hF.rise hG.rise (fun g hg => (hG.sp _).mpr ((h _).mp ((hF.sp _).mp (own_sp hg)))) fun g hg => (hF.sp _).mpr ((h _).mpr ((hG.sp _).mp (own_sp hg)))
theorem IsPf.same {p n : Nat} {R S : List (List Int)} {F : List (Nat × List Int)} (hF : IsPf p n R F) (hG : IsPf p n S F) (v : Rw) : Sp p R v ↔ Sp p S v := (hF.sp v).symm.trans (hG.sp v)
/-- more rows, none of which adds -/
theorem sp_app {p : Nat} {R : List (List Int)} {r : List Int} (h : Sp p R (fn r)) (v : Rw) : Sp p (R ++ [r]) v ↔ Sp p R v := by
  constructor
  · intro m
    refine Made.trans (fun x hx => ?_) m
    rw [List.map_append] at hx
    rcases List.mem_append.mp hx with q | q
    · exact Made.of q
    · rw [List.map_singleton, List.mem_singleton] at q; rw [q]; exact h
  · intro m
    exact Made.mono (fun x hx => by rw [List.map_append]; exact List.mem_append_left _ hx) m
/-- the form grows by one where a row is not made -/
theorem IsPf.more {p n : Nat} (hp : 2 ≤ p) (hI : ∀ a : Int, ¬ (p : Int) ∣ a → ∃ b : Int, (p : Int) ∣ a * b - 1) {R : List (List Int)} {r : List Int} {F G : List (Nat × List Int)} (hr : Bd p n r) (hF : IsPf p n R F) (hG : IsPf p n (R ++ [r]) G) : (Sp p R (fn r) ∧ G = F) ∨ (¬ Sp p R (fn r) ∧ G.length = F.length + 1) := by
  by_cases hs : Sp p R (fn r)
  · exact .inl ⟨hs, hG.eq hp hF fun v => sp_app hs v⟩
  · refine .inr ⟨hs, ?_⟩
    have p0 : 0 < p := by omega
    obtain ⟨b, cg⟩ := lov_ok p0 hF.pf hr
    have nz : ¬ ∀ j, j < n → fn (lov p F r) j = 0 := fun z => hs ((hF.sp _).mp ((lov_zero p0 hF.pf hr).mp z))
    have ex : ∃ c, c < n ∧ fn (lov p F r) c ≠ 0 ∧ ∀ j, j < c → fn (lov p F r) j = 0 := by
      have : ∃ c, c < n ∧ fn (lov p F r) c ≠ 0 := by
        refine Classical.byContradiction fun hn => nz fun j hj => Classical.byContradiction fun z => hn ⟨j, hj, z⟩
      obtain ⟨c, h1, h2⟩ := this
      induction c using Nat.strongRecOn with
      | _ c ih =>
        by_cases hh : ∃ j, j < c ∧ fn (lov p F r) j ≠ 0
        · obtain ⟨j, hj, hz⟩ := hh
          exact ih j hj (by omega) hz
        · exact ⟨c, h1, h2, fun j hj => Classical.byContradiction fun z => hh ⟨j, hj, z⟩⟩
    obtain ⟨c, hc, hn, hz⟩ := ex
    obtain ⟨inv, hi⟩ := hI (fn (lov p F r) c) fun z => hn (small_eq (b.at p0 c) ⟨Int.le_refl 0, by omega⟩ (by simpa using z))
    have g := hF.pf.grow hp b (fun g hg => lov_lead p0 hF.pf hr hg) hc hz hn hi
    have sp := grw_sp hp hF.pf b hi
    have := hG.pf.length hp g fun v => ?_
    · rw [this]; unfold grw; rw [List.length_append, List.length_map, List.length_singleton]
    · rw [sp v, hG.sp v]
      constructor
      · intro m
        refine Made.trans (fun x hx => ?_) m
        rw [List.map_append] at hx
        rcases List.mem_append.mp hx with q | q
        · have : Sp p R x := Made.of q
          exact Made.mono (fun y hy => List.mem_cons_of_mem _ hy) ((hF.sp x).mpr this)
        · rw [List.map_singleton, List.mem_singleton] at q
          rw [q]
          exact (lov_sp p0 hF.pf hr fun g hg => List.mem_cons_of_mem _ (List.mem_map.mpr ⟨g.2, List.mem_map_of_mem hg, rfl⟩)).mpr (Made.of List.mem_cons_self)
      · intro m
        refine Made.trans (fun x hx => ?_) m
        have lift : ∀ v, Sp p (rws F) v → Sp p (R ++ [r]) v := fun v hv => Made.mono (fun y hy => by rw [List.map_append]; exact List.mem_append_left _ hy) ((hF.sp v).mp hv)
        rcases List.mem_cons.mp hx with q | q
        · rw [q]
          have hR : Made p ((R ++ [r]).map fn) (fn r) := Made.of (by rw [List.map_append]; exact List.mem_append_right _ (by simp))
          have m2 : Made p ((R ++ [r]).map fn) (cmb (fn r) (toF F)) := lift _ (by
            have := cmb_made (p := p) (v := fn r) (toF F)
            rw [toF_snd] at this
            exact this)
          exact (hR.lin m2 (-1)).cg cg
        · obtain ⟨l, hl, rfl⟩ := List.mem_map.mp q
          obtain ⟨y, hy, rfl⟩ := List.mem_map.mp hl
          exact lift _ (own_sp hy)
end RR

/-! SmR2: sums of products, combinations, equations. -/
namespace RR
def dot : Nat → Rw → Rw → Int
  | 0, _, _ => 0
  | m + 1, v, x => dot m v x + v m * x m
theorem dot_lin (v w x : Rw) (k : Int) : ∀ m, dot m (fun j => v j + k * w j) x = dot m v x + k * dot m w x
  | 0 => by simp [dot]
  | m + 1 => by
    show dot m (fun j => v j + k * w j) x + (v m + k * w m) * x m = (dot m v x + v m * x m) + k * (dot m w x + w m * x m)
    rw [dot_lin v w x k m]; grind
theorem dot_cg {p : Nat} {v w x : Rw} : ∀ m, (∀ i, i < m → (p : Int) ∣ v i - w i) → (p : Int) ∣ dot m v x - dot m w x
  | 0, _ => ⟨0, by simp [dot]⟩
  | m + 1, h => by
    obtain ⟨a, ha⟩ := dot_cg (p := p) (v := v) (w := w) (x := x) m fun i hi => h i (by omega)
    obtain ⟨b, hb⟩ := h m (by omega)
    refine ⟨a + b * x m, ?_⟩
    show (dot m v x + v m * x m) - (dot m w x + w m * x m) = _
    grind
theorem dot_zero {v x : Rw} : ∀ m, (∀ i, i < m → v i * x i = 0) → dot m v x = 0
  | 0, _ => rfl
  | m + 1, h => by
    show dot m v x + v m * x m = 0
    rw [dot_zero m fun i hi => h i (by omega), h m (by omega)]; rfl
theorem dot_one {v x : Rw} {c : Nat} : ∀ m, c < m → (∀ i, i < m → i ≠ c → v i * x i = 0) → dot m v x = v c * x c
  | m + 1, hc, h => by
    show dot m v x + v m * x m = _
    by_cases e : c = m
    · subst e
      rw [dot_zero _ fun i hi => h i (by omega) (by omega), Int.zero_add]
    · rw [h m (by omega) (Ne.symm e), Int.add_zero]
      exact dot_one m (by omega) fun i hi => h i (by omega)
theorem dot_two {v x : Rw} {c d : Nat} (hcd : c ≠ d) : ∀ m, c < m → d < m → (∀ i, i < m → i ≠ c → i ≠ d → v i * x i = 0) → dot m v x = v c * x c + v d * x d
  | m + 1, hc, hd, h => by
    show dot m v x + v m * x m = _
    by_cases e : c = m
    · subst e
      rw [dot_one (c := d) _ (by omega) fun i hi hne => h i (by omega) (by omega) hne]; omega
    · by_cases e2 : d = m
      · subst e2
        rw [dot_one (c := c) _ (by omega) fun i hi hne => h i (by omega) hne (by omega)]
      · rw [h m (by omega) (Ne.symm e) (Ne.symm e2), Int.add_zero]
        exact dot_two hcd m (by omega) (by omega) fun i hi => h i (by omega)
theorem dot_congr {v w x y : Rw} : ∀ m, (∀ i, i < m → v i * x i = w i * y i) → dot m v x = dot m w y
  | 0, _ => rfl
  | m + 1, h => by
    show dot m v x + v m * x m = dot m w y + w m * y m
    rw [dot_congr m fun i hi => h i (by omega), h m (by omega)]
/-- what vanishes at rows vanishes at all that they make -/
theorem Made.phi {p : Nat} {R : List Rw} {φ : Rw → Int} (hl : ∀ v w k, φ (fun j => v j + k * w j) = φ v + k * φ w) (hc : ∀ v w, Cg p v w → (p : Int) ∣ φ v - φ w) (h : ∀ r ∈ R, (p : Int) ∣ φ r) {v : Rw} (m : Made p R v) : (p : Int) ∣ φ v := by
  induction m with
  | @zero v h0 =>
    have e0 : φ (fun _ => 0) = 0 := by
      have := hl (fun _ => 0) (fun _ => 0) 1
      have e : (fun j : Nat => (fun _ => (0 : Int)) j + 1 * (fun _ => (0 : Int)) j) = fun _ => 0 := funext fun _ => by simp
      rw [e] at this
      omega
    obtain ⟨a, ha⟩ := hc v _ h0
    exact ⟨a, by rw [← ha, e0]; omega⟩
  | @add v w r k _ hr hw ih =>
    obtain ⟨a, ha⟩ := hc w _ hw
    rw [hl] at ha
    obtain ⟨b, hb⟩ := ih
    obtain ⟨c, hc'⟩ := h r hr
    exact ⟨a + b + k * c, by grind⟩
/-! combinations by a row of factors -/
def lc : List Rw → Rw → Rw
  | [], _, _ => 0
  | r :: R, x, j => x 0 * r j + lc R (fun i => x (i + 1)) j
theorem lc_made {p : Nat} : ∀ (R : List Rw) (x : Rw), Made p R (lc R x)
  | [], _ => Made.nil
  | r :: R, x => by
    refine .add (x 0) ((lc_made R fun i => x (i + 1)).mono fun y hy => List.mem_cons_of_mem _ hy) List.mem_cons_self fun j => ?_
    show (p : Int) ∣ (x 0 * r j + lc R (fun i => x (i + 1)) j) - (lc R (fun i => x (i + 1)) j + x 0 * r j)
    exact ⟨0, by grind⟩
theorem lc_upd {k : Int} (j : Nat) : ∀ (R : List Rw) (x : Rw) (i : Nat) (r : Rw), R[i]? = some r → lc R (fun t => x t + if t = i then k else 0) j = lc R x j + k * r j
  | [], _, _, _, h => by simp at h
  | s :: R, x, 0, r, h => by
    simp at h; subst h
    show (x 0 + if (0 : Nat) = 0 then k else 0) * s j + lc R (fun t => x (t + 1) + if t + 1 = 0 then k else 0) j = (x 0 * s j + lc R (fun i => x (i + 1)) j) + k * s j
    have e : (fun t : Nat => x (t + 1) + if t + 1 = 0 then k else 0) = fun i => x (i + 1) := funext fun t => by simp
    rw [e, if_pos rfl]; grind
  | s :: R, x, i + 1, r, h => by
    show (x 0 + if (0 : Nat) = i + 1 then k else 0) * s j + lc R (fun t => x (t + 1) + if t + 1 = i + 1 then k else 0) j = (x 0 * s j + lc R (fun i => x (i + 1)) j) + k * r j
    have e : (fun t : Nat => x (t + 1) + if t + 1 = i + 1 then k else 0) = fun t => (fun i => x (i + 1)) t + if t = i then k else 0 := funext fun t => by simp
    rw [e, lc_upd j R (fun i => x (i + 1)) i r (by simpa using h), if_neg (by omega)]; grind
theorem lc_zero (j : Nat) : ∀ R : List Rw, lc R (fun _ => 0) j = 0
  | [] => rfl
  | r :: R => by
    show 0 * r j + lc R (fun _ => 0) j = 0
    rw [lc_zero j R]; simp
theorem Made.coef {p : Nat} {R : List Rw} {v : Rw} (m : Made p R v) : ∃ x : Rw, Cg p v (lc R x) := by
  induction m with
  | zero h => exact ⟨fun _ => 0, fun j => by rw [lc_zero]; exact h j⟩
  | @add v w r k _ hr hw ih =>
    obtain ⟨x, hx⟩ := ih
    obtain ⟨i, hi⟩ := List.mem_iff_getElem?.mp hr
    refine ⟨fun t => x t + if t = i then k else 0, fun j => ?_⟩
    rw [lc_upd j R x i r hi]
    obtain ⟨a, ha⟩ := hw j
    obtain ⟨b, hb⟩ := hx j
    exact ⟨a + b, by grind⟩
theorem lc_congr {R : List Rw} {x y : Rw} (h : ∀ i, i < R.length → x i = y i) (j : Nat) : lc R x j = lc R y j := by
  induction R generalizing x y with
  | nil => rfl
  | cons r R ih =>
    show x 0 * r j + lc R (fun i => x (i + 1)) j = y 0 * r j + lc R (fun i => y (i + 1)) j
    rw [h 0 (by simp), ih fun i hi => h (i + 1) (by simpa using hi)]
theorem lc_app (j : Nat) (r : Rw) : ∀ (R : List Rw) (x : Rw), lc (R ++ [r]) x j = lc R x j + x R.length * r j
  | [], x => by simp [lc]
  | s :: R, x => by
    show x 0 * s j + lc (R ++ [r]) (fun i => x (i + 1)) j = (x 0 * s j + lc R (fun i => x (i + 1)) j) + x (R.length + 1) * r j
    rw [lc_app j r R]; omega
/-- as a sum over places -/
theorem lc_dot (at_ : Nat) (x : Rw) : ∀ (n : Nat) (R : List (List Int)), R.length = n → lc (R.map fn) x at_ = dot n (fun i => fn (R.getD i []) at_) x
  | 0, R, h => by
    have : R = [] := List.eq_nil_of_length_eq_zero h
    subst this; rfl
  | n + 1, R, h => by
    obtain ⟨S, r, rfl⟩ : ∃ S r, R = S ++ [r] := ⟨R.dropLast, R.getLast (by intro z; subst z; simp at h), (List.dropLast_concat_getLast _).symm⟩
    have hl : S.length = n := by simpa using h
    rw [List.map_append, List.map_singleton, lc_app, List.length_map, hl, lc_dot at_ x n S hl]
    show _ = dot n (fun i => fn ((S ++ [r]).getD i []) at_) x + fn ((S ++ [r]).getD n []) at_ * x n
    have e1 : (S ++ [r]).getD n [] = r := by rw [List.getD_eq_getElem?_getD, List.getElem?_append_right (by omega), hl]; simp
    rw [e1, dot_congr (w := fun i => fn ((S ++ [r]).getD i []) at_) (y := x) n fun i hi => ?_]
    · grind
    · show fn (S.getD i []) at_ * x i = fn ((S ++ [r]).getD i []) at_ * x i
      rw [List.getD_eq_getElem?_getD, List.getD_eq_getElem?_getD, List.getElem?_append_left (by omega)]
theorem nodup_le {n : Nat} {l : List Nat} (hnd : l.Nodup) (hs : ∀ a ∈ l, a < n) : l.length ≤ n := by
  have aux : ∀ (l fs : List Nat), l.Nodup → (∀ a ∈ l, a ∈ fs) → l.length ≤ fs.length := by
    intro l
    induction l with
    | nil => intro _ _ _; exact Nat.zero_le _
    | cons a l ih =>
      intro fs hn hs
      obtain ⟨h1, h2⟩ := List.nodup_cons.mp hn
      have ha := hs a List.mem_cons_self
      have := ih (fs.erase a) h2 fun c hc => (List.mem_erase_of_ne (fun e : c = a => h1 (e ▸ hc))).mpr (hs c (List.mem_cons_of_mem _ hc))
      rw [List.length_erase_of_mem ha] at this
      have hpos : 0 < fs.length := List.length_pos_of_mem ha
      rw [List.length_cons]; omega
  have := aux l (List.range n) hnd fun a ha => List.mem_range.mpr (hs a ha)
  rwa [List.length_range] at this
theorem PF.le {p n : Nat} {G : List (Nat × List Int)} (h : PF p n G) : G.length ≤ n := by
  have := nodup_le h.nd fun a ha => by
    obtain ⟨g, hg, rfl⟩ := List.mem_map.mp ha
    exact h.lt g hg
  rwa [List.length_map] at this
/-! rows summed one behind another -/
def sumL (p : Nat) : List (List Int × Int) → List Int → List Int
  | [], acc => acc
  | q :: t, acc => sumL p t (plus p q.2 acc q.1)
theorem sumL_ok {p n : Nat} (hp : 0 < p) : ∀ {R : List (List Int)} {x acc : List Int}, R.length = x.length → (∀ r ∈ R, r.length = n) → Bd p n acc → Bd p n (sumL p (R.zip x) acc) ∧ Cg p (fn (sumL p (R.zip x) acc)) (fun j => fn acc j + lc (R.map fn) (fn x) j)
  | [], x, acc, _, _, ha => ⟨by simpa [sumL] using ha, fun j => by
      show (p : Int) ∣ fn acc j - (fn acc j + 0)
      exact ⟨0, by omega⟩⟩
  | r :: R, [], acc, h, _, _ => by simp at h
  | r :: R, f :: x, acc, h, hr, ha => by
    have hb := plus_bd (f := f) hp ha.1 (hr r List.mem_cons_self)
    obtain ⟨b, cg⟩ := sumL_ok hp (R := R) (x := x) (acc := plus p f acc r) (by simpa using h) (fun y hy => hr y (List.mem_cons_of_mem _ hy)) hb
    refine ⟨b, Cg.trans cg fun j => ?_⟩
    obtain ⟨a, ha'⟩ := plus_cg (p := p) (f := f) (a := acc) (b := r) (by rw [ha.1, hr r List.mem_cons_self]) j
    have e : lc ((r :: R).map fn) (fn (f :: x)) j = f * fn r j + lc (R.map fn) (fn x) j := rfl
    show (p : Int) ∣ (fn (plus p f acc r) j + lc (R.map fn) (fn x) j) - (fn acc j + lc ((r :: R).map fn) (fn (f :: x)) j)
    rw [e]
    exact ⟨a, by grind⟩
/-! ### equations -/
/-- of a place: what the rows have there, and what the row has -/
def eqn (R : List (List Int)) (v : List Int) (at_ : Nat) : List Int := R.map (fun r => r.getD at_ 0) ++ [v.getD at_ 0]
theorem eqn_at {R : List (List Int)} {v : List Int} {at_ i : Nat} (hi : i < R.length) : fn (eqn R v at_) i = fn (R.getD i []) at_ := by
  show (eqn R v at_).getD i 0 = (R.getD i []).getD at_ 0
  unfold eqn
  rw [List.getD_eq_getElem?_getD, List.getElem?_append_left (by rw [List.length_map]; exact hi), List.getElem?_map, List.getElem?_eq_getElem hi, List.getD_eq_getElem?_getD (l := R), List.getElem?_eq_getElem hi]; rfl
theorem eqn_last {R : List (List Int)} {v : List Int} {at_ : Nat} : fn (eqn R v at_) R.length = fn v at_ := by
  show (eqn R v at_).getD R.length 0 = v.getD at_ 0
  unfold eqn
  rw [List.getD_eq_getElem?_getD, List.getElem?_append_right (by rw [List.length_map]; exact Nat.le_refl _), List.length_map, Nat.sub_self]; rfl
theorem eqn_bd {p n : Nat} (hp : 0 < p) {R : List (List Int)} {v : List Int} (hR : ∀ r ∈ R, Bd p n r) (hv : Bd p n v) (at_ : Nat) : Bd p (R.length + 1) (eqn R v at_) := by
  refine ⟨by simp [eqn], fun z hz => ?_⟩
  rcases List.mem_append.mp hz with q | q
  · obtain ⟨r, hr, rfl⟩ := List.mem_map.mp q
    exact (hR r hr).at hp at_
  · rw [List.mem_singleton] at q; rw [q]; exact hv.at hp at_
def phi (m : Nat) (x : Rw) (v : Rw) : Int := dot m v x - v m
theorem phi_lin (m : Nat) (x v w : Rw) (k : Int) : phi m x (fun j => v j + k * w j) = phi m x v + k * phi m x w := by
  unfold phi
  rw [dot_lin]; grind
theorem phi_cg {p m : Nat} (x : Rw) {v w : Rw} (h : Cg p v w) : (p : Int) ∣ phi m x v - phi m x w := by
  obtain ⟨a, ha⟩ := dot_cg (p := p) (v := v) (w := w) (x := x) m fun i _ => h i
  obtain ⟨b, hb⟩ := h m
  exact ⟨a - b, by unfold phi; grind⟩
/-- the factors off the form -/
theorem makes_right {p n m : Nat} (hp : 0 < p) {R : List (List Int)} {v : List Int} (hm : R.length = m) {E : List (List Int)} (hE : E = (List.range n).map (eqn R v)) {G : List (Nat × List Int)} (hG : PF p (m + 1) G) (sp : ∀ w, Sp p (rws G) w ↔ Sp p E w) (hk : m ∉ G.map Prod.fst) {x : Rw} (hx : ∀ g ∈ G, x g.1 = fn g.2 m) (hx0 : ∀ i, i < m → i ∉ G.map Prod.fst → x i = 0) {j : Nat} (hj : j < n) :
    (p : Int) ∣ lc (R.map fn) x j - fn v j := by
  have zero : ∀ g ∈ G, (p : Int) ∣ phi m x (fn g.2) := fun g hg => by
    have hlt : g.1 < m := by
      have := hG.lt g hg
      rcases Nat.lt_or_ge g.1 m with q | q
      · exact q
      · exact absurd (List.mem_map.mpr ⟨g, hg, by omega⟩) hk
    have : dot m (fn g.2) x = fn g.2 g.1 * x g.1 := dot_one m hlt fun i hi hne => by
      by_cases hi' : i ∈ G.map Prod.fst
      · obtain ⟨h, hh, rfl⟩ := List.mem_map.mp hi'
        rw [hG.other g hg h hh (Ne.symm hne), Int.zero_mul]
      · rw [hx0 i hi hi', Int.mul_zero]
    unfold phi
    rw [this, hG.one g hg, hx g hg]
    exact ⟨0, by omega⟩
  have me : Sp p (rws G) (fn (eqn R v j)) := (sp _).mpr (Made.of (List.mem_map.mpr ⟨_, by rw [hE]; exact List.mem_map.mpr ⟨j, List.mem_range.mpr hj, rfl⟩, rfl⟩))
  have := Made.phi (φ := phi m x) (fun v w k => phi_lin m x v w k) (fun v w h => phi_cg x h) (fun r hr => by
    obtain ⟨l, hl, rfl⟩ := List.mem_map.mp hr
    obtain ⟨g, hg, rfl⟩ := List.mem_map.mp hl
    exact zero g hg) me
  unfold phi at this
  rw [← hm, eqn_last] at this
  rw [lc_dot j x R.length R rfl, dot_congr (w := fn (eqn R v j)) (y := x) R.length fun i hi => by rw [eqn_at hi]]
  exact this
theorem makes_none {p n m : Nat} (hp : 2 ≤ p) {R : List (List Int)} {v : List Int} (hm : R.length = m) {E : List (List Int)} (hE : E = (List.range n).map (eqn R v)) {G : List (Nat × List Int)} (hG : PF p (m + 1) G) (sp : ∀ w, Sp p (rws G) w ↔ Sp p E w) (hk : m ∈ G.map Prod.fst) : ¬ Sp p R (fn v) := by
  intro hs
  obtain ⟨x, hx⟩ := Made.coef hs
  obtain ⟨g, hg, eg⟩ := List.mem_map.mp hk
  have me : Sp p E (fn g.2) := (sp _).mp (own_sp hg)
  have := Made.phi (φ := phi m x) (fun v w k => phi_lin m x v w k) (fun v w h => phi_cg x h) (fun r hr => by
    obtain ⟨l, hl, rfl⟩ := List.mem_map.mp hr
    rw [hE] at hl
    obtain ⟨j, hj, rfl⟩ := List.mem_map.mp hl
    unfold phi
    rw [← hm, eqn_last, dot_congr (w := fun i => fn (R.getD i []) j) (y := x) R.length fun i hi => by rw [eqn_at hi], ← lc_dot j x R.length R rfl]
    obtain ⟨a, ha⟩ := hx j
    exact ⟨-a, by grind⟩) me
  unfold phi at this
  have z : dot m (fn g.2) x = 0 := dot_zero m fun i hi => by rw [hG.lead g hg i (by rw [eg]; exact hi), Int.zero_mul]
  rw [z, ← eg, hG.one g hg] at this
  obtain ⟨a, ha⟩ := this
  have : (p : Int) ∣ 1 := ⟨-a, by grind⟩
  have := Int.le_of_dvd (by decide) this
  omega
/-! ### what parts a row from rows -/
theorem parted_right {p n : Nat} (hp : 2 ≤ p) {R : List (List Int)} {v : List Int} (hv : Bd p n v) {G : List (Nat × List Int)} (hG : PF p n G) (sp : ∀ w, Sp p (rws G) w ↔ Sp p R w) {c : Nat} (hc : c < n) (hn : fn (lov p G v) c ≠ 0) {w : Rw} (wc : w c = 1) (wg : ∀ g ∈ G, (p : Int) ∣ w g.1 + fn g.2 c) (w0 : ∀ i, i < n → i ≠ c → i ∉ G.map Prod.fst → w i = 0) :
    (∀ r ∈ R, (p : Int) ∣ dot n (fn r) w) ∧ ¬ (p : Int) ∣ dot n (fn v) w := by
  have p0 : 0 < p := by omega
  have lin : ∀ u z k, dot n (fun j => u j + k * z j) w = dot n u w + k * dot n z w := fun u z k => dot_lin u z w k n
  have cgd : ∀ u z, Cg p u z → (p : Int) ∣ dot n u w - dot n z w := fun u z h => dot_cg n fun i _ => h i
  obtain ⟨b, cg⟩ := lov_ok p0 hG hv
  have ck : ∀ g ∈ G, g.1 ≠ c := fun g hg e => hn (by rw [← e]; exact lov_lead p0 hG hv hg)
  have zero : ∀ g ∈ G, (p : Int) ∣ dot n (fn g.2) w := fun g hg => by
    have : dot n (fn g.2) w = fn g.2 g.1 * w g.1 + fn g.2 c * w c := dot_two (ck g hg) n (hG.lt g hg) hc fun i hi h1 h2 => by
      by_cases hi' : i ∈ G.map Prod.fst
      · obtain ⟨h, hh, rfl⟩ := List.mem_map.mp hi'
        rw [hG.other g hg h hh (Ne.symm h1), Int.zero_mul]
      · rw [w0 i hi h2 hi', Int.mul_zero]
    rw [this, hG.one g hg, wc]
    have := wg g hg
    rwa [Int.one_mul, Int.mul_one]
  have all : ∀ u, Sp p (rws G) u → (p : Int) ∣ dot n u w := fun u hu => Made.phi (φ := fun u => dot n u w) lin cgd (fun r hr => by
    obtain ⟨l, hl, rfl⟩ := List.mem_map.mp hr
    obtain ⟨g, hg, rfl⟩ := List.mem_map.mp hl
    exact zero g hg) hu
  refine ⟨fun r hr => all _ ((sp _).mpr (Made.of (List.mem_map_of_mem hr))), fun z => ?_⟩
  -- what is left of the row
  have lz : dot n (fn (lov p G v)) w = fn (lov p G v) c * w c := dot_one n hc fun i hi hne => by
    by_cases hi' : i ∈ G.map Prod.fst
    · obtain ⟨g, hg, rfl⟩ := List.mem_map.mp hi'
      rw [lov_lead p0 hG hv hg, Int.zero_mul]
    · rw [w0 i hi hne hi', Int.mul_zero]
  have cz : (p : Int) ∣ dot n (cmb (fn v) (toF G)) w := all _ (by
    have := cmb_made (p := p) (v := fn v) (toF G)
    rw [toF_snd] at this
    exact this)
  have d1 := cgd _ _ cg
  rw [lin, lz, wc, Int.mul_one] at d1
  have : (p : Int) ∣ fn (lov p G v) c := by
    obtain ⟨a, ha⟩ := d1
    obtain ⟨e, he⟩ := cz
    obtain ⟨f, hf⟩ := z
    exact ⟨a + f - e, by grind⟩
  exact hn (small_eq (b.at p0 c) ⟨Int.le_refl 0, by omega⟩ (by simpa using this))
end RR

/-! SmR3: the plain form, found place by place. -/
namespace RR
theorem emod_eq' {p a b : Int} (h : p ∣ a - b) : a % p = b % p := Int.emod_eq_emod_iff_emod_sub_eq_zero.mpr (Int.emod_eq_zero_of_dvd h)
theorem clr_eq {p n : Nat} (hp : 0 < p) {row o : List Int} {c : Nat} (hr : Bd p n row) (ho : o.length = n) : plus p ((p : Int) - row.getD c 0) row o = clr p row c o := by
  unfold clr
  split
  · rename_i hz
    rw [hz, Int.sub_zero]
    refine Bd.ext hp (plus_bd hp hr.1 ho) hr fun j _ => ?_
    obtain ⟨a, ha⟩ := plus_cg (p := p) (f := (p : Int)) (a := row) (b := o) (by rw [hr.1, ho]) j
    exact ⟨a + fn o j, by grind⟩
  · refine Bd.ext hp (plus_bd hp hr.1 ho) (plus_bd hp hr.1 ho) fun j _ => ?_
    obtain ⟨a, ha⟩ := plus_cg (p := p) (f := (p : Int) - row.getD c 0) (a := row) (b := o) (by rw [hr.1, ho]) j
    obtain ⟨b, hb⟩ := plus_cg (p := p) (f := -(row.getD c 0)) (a := row) (b := o) (by rw [hr.1, ho]) j
    exact ⟨a - b + fn o j, by grind⟩
structure PlI (p n : Nat) (R : List (List Int)) (c : Nat) (F : List (Nat × List Int)) (L : List (List Int)) : Prop where
  pf : PF p n F
  rise : (F.map Prod.fst).Pairwise (· < ·)
  low : ∀ k ∈ F.map Prod.fst, k < c
  bd : ∀ l ∈ L, Bd p n l
  zero : ∀ l ∈ L, ∀ j, j < c → fn l j = 0
  sp : ∀ v, Sp p (rws F ++ L) v ↔ Sp p R v
section
variable {p n c : Nat} {R L : List (List Int)} {F : List (Nat × List Int)}
theorem PlI.start (h : ∀ r ∈ R, Bd p n r) : PlI p n R 0 [] R := ⟨PF.nil, List.Pairwise.nil, (fun _ h => nomatch h), h, (fun _ _ j hj => absurd hj (Nat.not_lt_zero j)), fun v => Iff.rfl⟩
theorem PlI.skip (h : PlI p n R c F L) (hz : ∀ l ∈ L, fn l c = 0) : PlI p n R (c + 1) F L :=
  ⟨h.pf, h.rise, fun k hk => Nat.lt_succ_of_lt (h.low k hk), h.bd, fun l hl j hj => by
    rcases Nat.lt_or_ge j c with q | q
    · exact h.zero l hl j q
    · rw [show j = c by omega]; exact hz l hl, h.sp⟩
theorem mem_sp {p : Nat} {A : List (List Int)} {r : List Int} (h : r ∈ A) : Sp p A (fn r) := Made.of (List.mem_map_of_mem h)
theorem sp_tr {p : Nat} {A B : List (List Int)} (h : ∀ a ∈ A, Sp p B (fn a)) {v : Rw} (m : Sp p A v) : Sp p B v := Made.trans (fun a ha => by
  obtain ⟨r, hr, rfl⟩ := List.mem_map.mp ha
  exact h r hr) m
theorem PlI.step (hp : 2 ≤ p) (h : PlI p n R c F L) (hc : c < n) {s : List Int} (hs : s ∈ L) (hn : fn s c ≠ 0) {t : Int} (hi : (p : Int) ∣ fn s c * t - 1) : PlI p n R (c + 1) (grw p n F c t s) (L.map fun l => clr p l c (fresh p n t s)) := by
  have bs := h.bd s hs
  have zs := h.zero s hs
  have p0 : 0 < p := by omega
  have bf := fresh_bd (p := p) (n := n) (inv := t) (left := s) p0 bs
  have fk : (grw p n F c t s).map Prod.fst = F.map Prod.fst ++ [c] := by
    unfold grw
    rw [List.map_append, List.map_map]; rfl
  have f1 := fresh_one (c := c) hp bs hi
  have g0 : ∀ g ∈ F, fn s g.1 = 0 := fun g hg => zs g.1 (h.low _ (List.mem_map_of_mem hg))
  have gs := grw_sp hp h.pf bs hi
  have memf : fresh p n t s ∈ rws (grw p n F c t s) := by
    unfold grw rws
    rw [List.map_append]
    exact List.mem_append_right _ (by simp)
  refine ⟨h.pf.grow hp bs g0 hc zs hn hi, ?_, ?_, ?_, ?_, fun v => ?_⟩
  · rw [fk, List.pairwise_append]
    refine ⟨h.rise, List.pairwise_singleton _ _, fun a ha b hb => ?_⟩
    rw [List.mem_singleton] at hb
    rw [hb]; exact h.low a ha
  · rw [fk]
    intro k hk
    rcases List.mem_append.mp hk with q | q
    · exact Nat.lt_succ_of_lt (h.low k q)
    · rw [List.mem_singleton] at q; omega
  · intro l' hl'
    obtain ⟨l, hl, rfl⟩ := List.mem_map.mp hl'
    exact clr_bd p0 (h.bd l hl) bf
  · intro l' hl' j hj
    obtain ⟨l, hl, rfl⟩ := List.mem_map.mp hl'
    have bl := h.bd l hl
    refine small_eq ((clr_bd p0 bl bf).at p0 j) ⟨Int.le_refl 0, by omega⟩ ?_
    obtain ⟨a, ha⟩ := clr_cg (p := p) (c := c) (v := l) (o := fresh p n t s) (by rw [bl.1, bf.1]) j
    rcases Nat.lt_or_ge j c with q | q
    · have h1 := h.zero l hl j q
      have h2 := fresh_zero (inv := t) p0 bs (zs j q)
      exact ⟨a, by grind⟩
    · have : j = c := by omega
      subst this
      exact ⟨a, by grind⟩
  · rw [← h.sp v]
    have up : ∀ x, Sp p (rws (grw p n F c t s)) x → Sp p (rws F ++ L) x := fun x m => by
      rw [gs x] at m
      refine m.mono fun y hy => ?_
      rw [List.map_append]
      rcases List.mem_cons.mp hy with e | e
      · subst e; exact List.mem_append_right _ (List.mem_map_of_mem hs)
      · exact List.mem_append_left _ e
    have dn : ∀ x, Sp p (rws (grw p n F c t s)) x → Sp p (rws (grw p n F c t s) ++ L.map fun l => clr p l c (fresh p n t s)) x := fun x m => m.mono fun y hy => by
      rw [List.map_append]; exact List.mem_append_left _ hy
    constructor
    · refine sp_tr fun a ha => ?_
      rcases List.mem_append.mp ha with e | e
      · exact up _ (mem_sp e)
      · obtain ⟨l, hl, rfl⟩ := List.mem_map.mp e
        have bl := h.bd l hl
        have cg := clr_cg (p := p) (c := c) (v := l) (o := fresh p n t s) (by rw [bl.1, bf.1])
        exact (Made.lin (mem_sp (List.mem_append_right _ hl)) (up _ (mem_sp memf)) (-(fn l c))).cg cg
    · refine sp_tr fun a ha => ?_
      rcases List.mem_append.mp ha with e | e
      · refine dn _ ((gs _).mpr ?_)
        exact Made.of (List.mem_cons_of_mem _ (List.mem_map_of_mem e))
      · have bl := h.bd a e
        have cg := clr_cg (p := p) (c := c) (v := a) (o := fresh p n t s) (by rw [bl.1, bf.1])
        refine (Made.lin (mem_sp (List.mem_append_right _ (List.mem_map_of_mem e))) (dn _ (mem_sp memf)) (fn a c)).cg fun j => ?_
        obtain ⟨x, hx⟩ := cg j
        exact ⟨-x, by grind⟩
theorem PlI.fin (h : PlI p n R n F L) : IsPf p n R F := by
  refine ⟨h.pf, h.rise, fun v => ?_⟩
  rw [← h.sp v]
  constructor
  · exact sp_tr fun a ha => mem_sp (List.mem_append_left _ ha)
  · refine sp_tr fun a ha => ?_
    rcases List.mem_append.mp ha with e | e
    · exact mem_sp e
    · refine Made.nil.cg fun j => ?_
      rcases Nat.lt_or_ge j n with q | q
      · rw [h.zero a e j q]; exact ⟨0, by simp⟩
      · rw [(h.bd a e).big q]; exact ⟨0, by simp⟩
end
end RR

/-! SmR4: what is shown of rows of rows of rests tells them. -/
namespace RR
open PySem PySem.Spec PyProof.Rows
def jn : List (List Nat) → List Nat
  | [] => []
  | [x] => x
  | x :: y :: r => x ++ 44 :: 32 :: jn (y :: r)
theorem jn_join : ∀ ts : List Str, (Str.join ", " ts).cps.toList = jn (ts.map fun t => t.cps.toList)
  | [] => by decide
  | [x] => rfl
  | x :: y :: r => by
    rw [join_cons_cons, cps_toList_append, cps_toList_append, signs_sep, jn_join (y :: r), List.map_cons, List.map_cons, List.map_cons]
    show _ = x.cps.toList ++ 44 :: 32 :: jn _
    rw [List.append_assoc]; rfl
theorem split_at {c : Nat} : ∀ {u u' s s' : List Nat}, c ∉ u → c ∉ u' → u ++ c :: s = u' ++ c :: s' → u = u' ∧ s = s'
  | [], [], s, s', _, _, h => ⟨rfl, by injection h⟩
  | [], x :: u', s, s', _, h2, h => by
    injection h with h3 _
    exact absurd (by rw [h3]; exact List.mem_cons_self) h2
  | x :: u, [], s, s', h1, _, h => by
    injection h with h3 _
    exact absurd (by rw [← h3]; exact List.mem_cons_self) h1
  | x :: u, y :: u', s, s', h1, h2, h => by
    injection h with h3 h4
    obtain ⟨e1, e2⟩ := split_at (fun z => h1 (List.mem_cons_of_mem _ z)) (fun z => h2 (List.mem_cons_of_mem _ z)) h4
    exact ⟨by rw [h3, e1], e2⟩
theorem jn_inj44 : ∀ {xs ys : List (List Nat)}, xs.length = ys.length → (∀ x ∈ xs, 44 ∉ x) → (∀ y ∈ ys, 44 ∉ y) → jn xs = jn ys → xs = ys
  | [], [], _, _, _, _ => rfl
  | [x], [y], _, _, _, h => by
    have : x = y := h
    rw [this]
  | x :: x2 :: xs, y :: y2 :: ys, hl, h1, h2, h => by
    obtain ⟨e1, e2⟩ := split_at (h1 x List.mem_cons_self) (h2 y List.mem_cons_self) h
    injection e2 with _ e2
    rw [e1, jn_inj44 (xs := x2 :: xs) (ys := y2 :: ys) (by simpa using hl) (fun z hz => h1 z (List.mem_cons_of_mem _ hz)) (fun z hz => h2 z (List.mem_cons_of_mem _ hz)) e2]
  | [], _ :: _, hl, _, _, _ => by simp at hl
  | _ :: _, [], hl, _, _, _ => by simp at hl
  | [x], y :: y2 :: ys, hl, _, _, _ => by simp at hl
  | x :: x2 :: xs, [y], hl, _, _, _ => by simp at hl
def Cl (x : List Nat) : Prop := ∃ u, x = u ++ [41] ∧ 41 ∉ u
theorem jn_inj41 : ∀ {xs ys : List (List Nat)}, xs.length = ys.length → (∀ x ∈ xs, Cl x) → (∀ y ∈ ys, Cl y) → jn xs = jn ys → xs = ys
  | [], [], _, _, _, _ => rfl
  | [x], [y], _, _, _, h => by
    have : x = y := h
    rw [this]
  | x :: x2 :: xs, y :: y2 :: ys, hl, h1, h2, h => by
    obtain ⟨u, hu, nu⟩ := h1 x List.mem_cons_self
    obtain ⟨u', hu', nu'⟩ := h2 y List.mem_cons_self
    have h' : u ++ 41 :: (44 :: 32 :: jn (x2 :: xs)) = u' ++ 41 :: (44 :: 32 :: jn (y2 :: ys)) := by
      have h0 : x ++ 44 :: 32 :: jn (x2 :: xs) = y ++ 44 :: 32 :: jn (y2 :: ys) := h
      rw [hu, hu', List.append_assoc, List.append_assoc] at h0
      exact h0
    obtain ⟨e1, e2⟩ := split_at nu nu' h'
    injection e2 with _ e2
    injection e2 with _ e2
    rw [hu, hu', e1, jn_inj41 (xs := x2 :: xs) (ys := y2 :: ys) (by simpa using hl) (fun z hz => h1 z (List.mem_cons_of_mem _ hz)) (fun z hz => h2 z (List.mem_cons_of_mem _ hz)) e2]
  | [], _ :: _, hl, _, _, _ => by simp at hl
  | _ :: _, [], hl, _, _, _ => by simp at hl
  | [x], y :: y2 :: ys, hl, _, _, _ => by simp at hl
  | x :: x2 :: xs, [y], hl, _, _, _ => by simp at hl
theorem Cl.cnt {x : List Nat} (h : Cl x) : x.count 41 = 1 := by
  obtain ⟨u, rfl, hu⟩ := h
  rw [List.count_append, List.count_eq_zero.mpr hu]; rfl
theorem jn_cnt : ∀ {xs : List (List Nat)}, (∀ x ∈ xs, Cl x) → (jn xs).count 41 = xs.length
  | [], _ => rfl
  | [x], h => (h x List.mem_cons_self).cnt
  | x :: y :: r, h => by
    show (x ++ 44 :: 32 :: jn (y :: r)).count 41 = _
    rw [List.count_append, (h x List.mem_cons_self).cnt, List.count_cons_of_ne (by decide), List.count_cons_of_ne (by decide), jn_cnt fun z hz => h z (List.mem_cons_of_mem _ hz)]
    simp only [List.length_cons]
    omega
/-- the text of a rest tells it -/
def rd (l : List Nat) : Nat := l.foldl (fun a d => a * 10 + (d - 48)) 0
theorem rd_all : ∀ a : Fin 1000, rd ((Str.ofString (toString ((a.val : Nat) : Int))).cps.toList) = a.val := by decide +kernel
theorem int_inj {a b : Int} (ha : 0 ≤ a ∧ a < 1000) (hb : 0 ≤ b ∧ b < 1000) (h : (PyData.int a).shown.cps.toList = (PyData.int b).shown.cps.toList) : a = b := by
  obtain ⟨x, rfl⟩ := Int.eq_ofNat_of_zero_le ha.1
  obtain ⟨y, rfl⟩ := Int.eq_ofNat_of_zero_le hb.1
  have h1 := rd_all ⟨x, by omega⟩
  have h2 := rd_all ⟨y, by omega⟩
  rw [PyData.shown_int, PyData.shown_int] at h
  have h3 : rd ((Str.ofString (toString ((x : Nat) : Int))).cps.toList) = rd ((Str.ofString (toString ((y : Nat) : Int))).cps.toList) := congrArg rd h
  rw [h1, h2] at h3
  have : x = y := h3
  omega
theorem shownAll_map : ∀ xs : List PyData, PyData.shownAll xs = xs.map PyData.shown
  | [] => by simp only [PyData.shownAll, List.map_nil]
  | x :: xs => by simp only [PyData.shownAll, List.map_cons, shownAll_map xs]
def tl (n : Nat) : List Nat := if n = 1 then [44, 41] else [41]
theorem tup_text (xs : List PyData) : (PyData.tuple xs).shown.cps.toList = 40 :: (jn (xs.map fun d => d.shown.cps.toList) ++ tl xs.length) := by
  rw [PyData.shown_tuple, cps_toList_append, cps_toList_append, signs_lparen, jn_join, shownAll_map, List.map_map]
  have : ((if xs.length == 1 then ",)" else ")" : String) : Str).cps.toList = tl xs.length := by
    unfold tl
    by_cases h : xs.length = 1
    · rw [if_pos h, h]; decide
    · rw [if_neg h, show (xs.length == 1) = false from by simpa using h]; decide
  rw [this]; rfl
theorem row_cl (zs : List Int) : Cl (PyData.tuple (zs.map PyData.int)).shown.cps.toList := by
  rw [tup_text]
  have nj : 41 ∉ jn ((zs.map PyData.int).map fun d => d.shown.cps.toList) := by
    have : ∀ ts : List (List Nat), (∀ t ∈ ts, 41 ∉ t) → 41 ∉ jn ts := by
      intro ts
      induction ts with
      | nil => intro _ h; cases h
      | cons t ts ih =>
        intro ht
        cases ts with
        | nil => exact ht t List.mem_cons_self
        | cons t2 ts =>
          show 41 ∉ t ++ 44 :: 32 :: jn (t2 :: ts)
          intro hm
          rcases List.mem_append.mp hm with q | q
          · exact ht t List.mem_cons_self q
          · rcases List.mem_cons.mp q with q | q
            · cases q
            rcases List.mem_cons.mp q with q | q
            · cases q
            exact ih (fun z hz => ht z (List.mem_cons_of_mem _ hz)) q
    refine this _ fun t ht => ?_
    obtain ⟨d, hd, rfl⟩ := List.mem_map.mp ht
    obtain ⟨z, _, rfl⟩ := List.mem_map.mp hd
    exact shown_int_free' ⟨by decide, by decide⟩ z
  unfold tl
  split
  · refine ⟨40 :: (jn ((zs.map PyData.int).map fun d => d.shown.cps.toList) ++ [44]), by simp, ?_⟩
    intro hm
    rcases List.mem_cons.mp hm with q | q
    · cases q
    rcases List.mem_append.mp q with q | q
    · exact nj q
    · rw [List.mem_singleton] at q; cases q
  · refine ⟨40 :: jn ((zs.map PyData.int).map fun d => d.shown.cps.toList), by simp, ?_⟩
    intro hm
    rcases List.mem_cons.mp hm with q | q
    · cases q
    · exact nj q
theorem map_inj_on {α β : Type} {f : α → β} {P : α → Prop} (h : ∀ a b, P a → P b → f a = f b → a = b) : ∀ {xs ys : List α}, (∀ x ∈ xs, P x) → (∀ y ∈ ys, P y) → xs.map f = ys.map f → xs = ys
  | [], [], _, _, _ => rfl
  | [], _ :: _, _, _, e => by cases e
  | _ :: _, [], _, _, e => by cases e
  | x :: xs, y :: ys, h1, h2, e => by
    rw [List.map_cons, List.map_cons] at e
    injection e with e1 e2
    rw [h x y (h1 x List.mem_cons_self) (h2 y List.mem_cons_self) e1, map_inj_on h (fun z hz => h1 z (List.mem_cons_of_mem _ hz)) (fun z hz => h2 z (List.mem_cons_of_mem _ hz)) e2]
theorem row_inj {n : Nat} {a b : List Int} (la : a.length = n) (lb : b.length = n) (ha : ∀ z ∈ a, 0 ≤ z ∧ z < 1000) (hb : ∀ z ∈ b, 0 ≤ z ∧ z < 1000) (h : (PyData.tuple (a.map PyData.int)).shown.cps.toList = (PyData.tuple (b.map PyData.int)).shown.cps.toList) : a = b := by
  rw [tup_text, tup_text, List.length_map, List.length_map, la, lb] at h
  injection h with _ h
  have h := List.append_cancel_right h
  have fr : ∀ zs : List Int, ∀ t ∈ (zs.map PyData.int).map (fun d => d.shown.cps.toList), 44 ∉ t := fun zs t ht => by
    obtain ⟨d, hd, rfl⟩ := List.mem_map.mp ht
    obtain ⟨z, _, rfl⟩ := List.mem_map.mp hd
    exact shown_int_free' ⟨by decide, by decide⟩ z
  have := jn_inj44 (by simp [la, lb]) (fr a) (fr b) h
  rw [List.map_map, List.map_map] at this
  exact map_inj_on (P := fun z : Int => 0 ≤ z ∧ z < 1000) (fun x y hx hy e => int_inj hx hy e) ha hb this
theorem rows_inj {n : Nat} {F G : List (List Int)} (hF : ∀ a ∈ F, a.length = n ∧ ∀ z ∈ a, 0 ≤ z ∧ z < 1000) (hG : ∀ a ∈ G, a.length = n ∧ ∀ z ∈ a, 0 ≤ z ∧ z < 1000) (h : (PyData.tuple (F.map fun a => PyData.tuple (a.map PyData.int))).shown = (PyData.tuple (G.map fun a => PyData.tuple (a.map PyData.int))).shown) : F = G := by
  have h := congrArg (fun s : Str => s.cps.toList) h
  rw [tup_text, tup_text, List.length_map, List.length_map] at h
  injection h with _ h
  have cl : ∀ F : List (List Int), ∀ t ∈ (F.map fun a => PyData.tuple (a.map PyData.int)).map (fun d => d.shown.cps.toList), Cl t := fun F t ht => by
    obtain ⟨d, hd, rfl⟩ := List.mem_map.mp ht
    obtain ⟨a, _, rfl⟩ := List.mem_map.mp hd
    exact row_cl a
  have tc : ∀ n, (tl n).count 41 = 1 := fun n => by unfold tl; split <;> decide
  have hc := congrArg (List.count 41) h
  rw [List.count_append, List.count_append, tc, tc, jn_cnt (cl F), jn_cnt (cl G), List.length_map, List.length_map, List.length_map, List.length_map] at hc
  have hlen : F.length = G.length := by omega
  rw [hlen] at h
  have h := List.append_cancel_right h
  have := jn_inj41 (by simp [hlen]) (cl F) (cl G) h
  rw [List.map_map, List.map_map] at this
  exact map_inj_on (P := fun a : List Int => a.length = n ∧ ∀ z ∈ a, 0 ≤ z ∧ z < 1000) (fun x y hx hy e => row_inj hx.1 hy.1 hx.2 hy.2 e) hF hG this
end RR

namespace Sm
def ev (x : Int) : List Int → Int
  | [] => 0
  | r :: rs => r + x * ev x rs
def hor (p x : Int) : List Int → Int
  | [] => 0
  | r :: rs => (hor p x rs * x + r) % p
theorem emod_congr {p a b : Int} (h : p ∣ a - b) : a % p = b % p := Int.emod_eq_emod_iff_emod_sub_eq_zero.mpr (Int.emod_eq_zero_of_dvd h)
theorem dvd_emod (p a : Int) : p ∣ a % p - a := by
  have := Int.emod_add_mul_ediv a p
  exact ⟨-(a / p), by rw [Int.mul_neg]; omega⟩
theorem hor_ev (p x : Int) : ∀ rs : List Int, hor p x rs = ev x rs % p
  | [] => by simp [hor, ev]
  | r :: rs => by
    unfold hor ev
    rw [hor_ev p x rs]
    apply emod_congr
    obtain ⟨k, hk⟩ := dvd_emod p (ev x rs)
    refine ⟨k * x, ?_⟩
    have : ev x rs % p = ev x rs + p * k := by omega
    rw [this, Int.add_mul, Int.mul_assoc, Int.mul_comm x]; omega
theorem hor_lt {p x : Int} (hp : 0 < p) : ∀ rs : List Int, 0 ≤ hor p x rs ∧ hor p x rs < p
  | [] => ⟨Int.le_refl 0, hp⟩
  | _ :: _ => ⟨Int.emod_nonneg _ (by omega), Int.emod_lt_of_pos _ hp⟩
theorem foldr_hor (p x : Int) : ∀ rs : List Int, rs.foldr (fun r w => (w * x + r) % p) 0 = hor p x rs
  | [] => rfl
  | r :: rs => by rw [List.foldr_cons, foldr_hor p x rs]; rfl

def plusL (p f : Int) (a b : List Int) : List Int := (a.zip b).map fun q => (q.1 + f * q.2) % p
theorem plus_len {p f : Int} {a b : List Int} (h : a.length = b.length) : (plusL p f a b).length = a.length := by simp [plusL, h]
theorem plus_in {p f : Int} {a b : List Int} (hp : 0 < p) : ∀ z ∈ plusL p f a b, 0 ≤ z ∧ z < p := by
  intro z hz
  obtain ⟨q, _, rfl⟩ := List.mem_map.mp hz
  exact ⟨Int.emod_nonneg _ (by omega), Int.emod_lt_of_pos _ hp⟩
theorem ev_plus (p x f : Int) : ∀ a b : List Int, a.length = b.length → p ∣ ev x (plusL p f a b) - (ev x a + f * ev x b)
  | [], [], _ => ⟨0, by simp [plusL, ev]⟩
  | a :: as, b :: bs, h => by
    obtain ⟨k, hk⟩ := ev_plus p x f as bs (by simpa using h)
    obtain ⟨j, hj⟩ := dvd_emod p (a + f * b)
    refine ⟨j + x * k, ?_⟩
    have e1 : plusL p f (a :: as) (b :: bs) = ((a + f * b) % p) :: plusL p f as bs := rfl
    have e2 : ev x (plusL p f as bs) = ev x as + f * ev x bs + p * k := by omega
    have e3 : (a + f * b) % p = a + f * b + p * j := by omega
    rw [e1]
    show (a + f * b) % p + x * ev x (plusL p f as bs) - ((a + x * ev x as) + f * (b + x * ev x bs)) = _
    rw [e2, e3, Int.mul_add, Int.mul_add, Int.mul_add, Int.mul_add]
    have s1 : x * (f * ev x bs) = f * (x * ev x bs) := by rw [← Int.mul_assoc, ← Int.mul_assoc, Int.mul_comm x f]
    have s2 : x * (p * k) = p * (x * k) := by rw [← Int.mul_assoc, ← Int.mul_assoc, Int.mul_comm x p]
    rw [s1, s2]; omega
  | [], _ :: _, h => by simp at h
  | _ :: _, [], h => by simp at h
theorem hor_plus {p x f : Int} {a b : List Int} (h : a.length = b.length) : hor p x (plusL p f a b) = (hor p x a + f * hor p x b) % p := by
  rw [hor_ev, hor_ev, hor_ev]
  apply emod_congr
  obtain ⟨k, hk⟩ := ev_plus p x f a b h
  obtain ⟨i, hi⟩ := dvd_emod p (ev x a)
  obtain ⟨j, hj⟩ := dvd_emod p (ev x b)
  refine ⟨k - i - f * j, ?_⟩
  have e1 : ev x a % p = ev x a + p * i := by omega
  have e2 : ev x b % p = ev x b + p * j := by omega
  have e3 : ev x (plusL p f a b) = ev x a + f * ev x b + p * k := by omega
  have s : f * (p * j) = p * (f * j) := by rw [← Int.mul_assoc, ← Int.mul_assoc, Int.mul_comm f p]
  rw [e1, e2, e3, Int.mul_add, s, Int.mul_sub, Int.mul_sub]; omega

def PrP (p : Nat) : Prop := 2 ≤ p ∧ p < 1000 ∧ ∀ a : Nat, 0 < a → a < p → Nat.gcd p a = 1
theorem PrP.gcd {p : Nat} (h : PrP p) {a : Nat} (ha : ¬ p ∣ a) : Nat.gcd p a = 1 := by
  have h0 : 0 < a % p := Nat.pos_of_ne_zero fun e => ha (Nat.dvd_of_mod_eq_zero e)
  have := h.2.2 (a % p) h0 (Nat.mod_lt a (by have := h.1; omega))
  rw [Nat.gcd_rec, Nat.gcd_comm]; exact this
theorem PrP.mul {p : Nat} (h : PrP p) {a b : Int} (e : (p : Int) ∣ a * b) (ha : ¬ (p : Int) ∣ a) : (p : Int) ∣ b := by
  rw [Int.ofNat_dvd_left] at e ha ⊢
  rw [Int.natAbs_mul] at e
  exact Nat.Coprime.dvd_of_dvd_mul_left (h.gcd ha) e
theorem apart {p : Nat} {x y : Int} (hx : 0 ≤ x ∧ x < p) (hy : 0 ≤ y ∧ y < p) (h : x ≠ y) : ¬ (p : Int) ∣ x - y := fun ⟨k, hk⟩ => by
  have : k = 0 := by
    rcases Int.lt_trichotomy k 0 with q | q | q
    · have : (p : Int) * k ≤ (p : Int) * (-1) := Int.mul_le_mul_of_nonneg_left (by omega) (by omega)
      omega
    · exact q
    · have : (p : Int) * 1 ≤ (p : Int) * k := Int.mul_le_mul_of_nonneg_left (by omega) (by omega)
      omega
  subst this
  omega
/-- what is left when a root is taken out -/
def sd (a : Int) : List Int → List Int
  | [] => []
  | [_] => []
  | _ :: c :: t => ev a (c :: t) :: sd a (c :: t)
theorem sd_len (a : Int) : ∀ (c : Int) (t : List Int), (sd a (c :: t)).length = t.length
  | _, [] => rfl
  | _, c :: t => by rw [sd, List.length_cons, sd_len a c t, List.length_cons]
theorem sd_ev (a x : Int) : ∀ cs : List Int, ev x cs - ev a cs = (x - a) * ev x (sd a cs)
  | [] => by simp [ev, sd]
  | [c] => by simp [ev, sd]
  | b :: c :: t => by
    have ih := sd_ev a x (c :: t)
    rw [sd]
    show (b + x * ev x (c :: t)) - (b + a * ev a (c :: t)) = (x - a) * (ev a (c :: t) + x * ev x (sd a (c :: t)))
    generalize ev x (c :: t) = X at *
    generalize ev a (c :: t) = Y at *
    generalize ev x (sd a (c :: t)) = Z at *
    have e : X = Y + (x - a) * Z := by omega
    rw [e, Int.mul_add, Int.mul_add]
    have s : x * ((x - a) * Z) = (x - a) * (x * Z) := by rw [← Int.mul_assoc, ← Int.mul_assoc, Int.mul_comm x]
    have s2 : (x - a) * Y = x * Y - a * Y := Int.sub_mul x a Y
    rw [s, s2]
    omega
theorem sd_all {p a : Int} : ∀ cs : List Int, p ∣ ev a cs → (∀ q ∈ sd a cs, p ∣ q) → ∀ c ∈ cs, p ∣ c
  | [], _, _, c, h => by cases h
  | [b], h, _, c, hc => by
    rw [List.mem_singleton] at hc
    subst hc
    simpa [ev] using h
  | b :: c :: t, h, hq, d, hd => by
    have h1 : p ∣ ev a (c :: t) := hq _ (by rw [sd]; exact List.mem_cons_self)
    have ih := sd_all (c :: t) h1 fun q hq' => hq q (by rw [sd]; exact List.mem_cons_of_mem _ hq')
    rcases List.mem_cons.mp hd with e | e
    · subst e
      have h2 : p ∣ d + a * ev a (c :: t) := h
      have := Int.dvd_sub h2 (show p ∣ a * ev a (c :: t) from Int.dvd_mul_of_dvd_right h1)
      rwa [Int.add_sub_cancel] at this
    · exact ih d e
theorem roots {p : Nat} (hp : PrP p) : ∀ (cs xs : List Int), cs.length ≤ xs.length → xs.Pairwise (fun x y => ¬ (p : Int) ∣ x - y) → (∀ x ∈ xs, (p : Int) ∣ ev x cs) → ∀ c ∈ cs, (p : Int) ∣ c
  | [], _, _, _, _, c, h => by cases h
  | c :: t, [], h, _, _, _, _ => by simp at h
  | c :: t, a :: xs, hl, hd, hr, d, hm => by
    have ha := hr a List.mem_cons_self
    have hd' := List.pairwise_cons.mp hd
    have ih := roots hp (sd a (c :: t)) xs (by rw [sd_len]; simpa using hl) hd'.2 (by
      intro x hx
      have h1 := hr x (List.mem_cons_of_mem _ hx)
      have h2 : (p : Int) ∣ (x - a) * ev x (sd a (c :: t)) := by rw [← sd_ev]; exact Int.dvd_sub h1 ha
      refine hp.mul h2 fun e => hd'.1 x hx ?_
      have := Int.dvd_neg.mpr e
      rwa [Int.neg_sub] at this)
    exact sd_all (c :: t) ha ih d hm
  termination_by cs => cs.length
  decreasing_by rw [sd_len]; simp
theorem ev_sub (x : Int) : ∀ a b : List Int, a.length = b.length → ev x ((a.zip b).map fun q => q.1 - q.2) = ev x a - ev x b
  | [], [], _ => by simp [ev]
  | a :: as, b :: bs, h => by
    have ih := ev_sub x as bs (by simpa using h)
    show (a - b) + x * ev x ((as.zip bs).map fun q => q.1 - q.2) = (a + x * ev x as) - (b + x * ev x bs)
    rw [ih, Int.mul_sub]; omega
  | [], _ :: _, h => by simp at h
  | _ :: _, [], h => by simp at h
theorem rows_eq {p : Int} : ∀ a b : List Int, a.length = b.length → (∀ z ∈ a, 0 ≤ z ∧ z < p) → (∀ z ∈ b, 0 ≤ z ∧ z < p) → (∀ c ∈ (a.zip b).map fun q => q.1 - q.2, p ∣ c) → a = b
  | [], [], _, _, _, _ => rfl
  | a :: as, b :: bs, h, ha, hb, hd => by
    have h1 := ha a List.mem_cons_self
    have h2 := hb b List.mem_cons_self
    have h3 : p ∣ a - b := hd _ (by simp)
    have e : a = b := by
      have q : a % p = b % p := emod_congr h3
      rwa [Int.emod_eq_of_lt h1.1 h1.2, Int.emod_eq_of_lt h2.1 h2.2] at q
    rw [e, rows_eq as bs (by simpa using h) (fun z hz => ha z (List.mem_cons_of_mem _ hz)) (fun z hz => hb z (List.mem_cons_of_mem _ hz)) (fun c hc => hd c (by
      rw [List.zip_cons_cons, List.map_cons]; exact List.mem_cons_of_mem _ hc))]
  | [], _ :: _, h, _, _, _ => by simp at h
  | _ :: _, [], h, _, _, _ => by simp at h
/-- rows of as many rests, worth the same at as many unlike points, are the same -/
theorem rows_unique {p : Nat} (hp : PrP p) {a b xs : List Int} (hl : a.length = b.length) (hx : a.length ≤ xs.length) (ha : ∀ z ∈ a, 0 ≤ z ∧ z < p) (hb : ∀ z ∈ b, 0 ≤ z ∧ z < p) (hd : xs.Pairwise (fun x y => ¬ (p : Int) ∣ x - y)) (h : ∀ x ∈ xs, hor p x a = hor p x b) : a = b := by
  refine rows_eq a b hl ha hb (roots hp _ xs (by rw [List.length_map, List.length_zip]; omega) hd fun x hx' => ?_)
  rw [ev_sub x a b hl]
  have := h x hx'
  rw [hor_ev, hor_ev] at this
  exact Int.dvd_of_emod_eq_zero (Int.emod_eq_emod_iff_emod_sub_eq_zero.mp this)
theorem hor_small {p x r : Int} {rs : List Int} (h : (p : Int) ∣ ev x rs - r) (hr : 0 ≤ r ∧ r < p) : hor p x rs = r := by
  rw [hor_ev, emod_congr h, Int.emod_eq_of_lt hr.1 hr.2]
theorem ev_snoc0 (x : Int) : ∀ rs : List Int, ev x (rs ++ [0]) = ev x rs
  | [] => by simp [ev]
  | r :: rs => by
    rw [List.cons_append]
    show r + x * ev x (rs ++ [0]) = r + x * ev x rs
    rw [ev_snoc0 x rs]
theorem ev_zeros (x : Int) (rs : List Int) : ∀ n : Nat, ev x (rs ++ List.replicate n 0) = ev x rs
  | 0 => by simp
  | n + 1 => by rw [List.replicate_succ', ← List.append_assoc, ev_snoc0, ev_zeros x rs n]
theorem bez : ∀ m n : Nat, ∃ x y : Int, (m : Int) * x + n * y = (Nat.gcd m n : Int) := by
  intro m n
  induction m, n using Nat.gcd.induction with
  | H0 n => exact ⟨0, 1, by simp⟩
  | H1 m n hm ih =>
    obtain ⟨x, y, h⟩ := ih
    refine ⟨y - (n / m : Nat) * x, x, ?_⟩
    rw [Nat.gcd_rec, ← h]
    have e : ((n % m : Nat) : Int) = n - m * (n / m : Nat) := by
      have := Nat.div_add_mod n m
      have : ((m * (n / m) + n % m : Nat) : Int) = n := by rw [this]
      push_cast at this ⊢
      omega
    rw [e]
    grind
theorem inv_ex {p : Nat} (hP : PrP p) {a : Int} (hn : ¬ (p : Int) ∣ a) : ∃ c : Int, 0 ≤ c ∧ c < p ∧ (p : Int) ∣ a * c - 1 := by
  have hp1 := hP.1
  have hnd : ¬ p ∣ a.natAbs := fun h => hn (Int.ofNat_dvd_left.mpr h)
  obtain ⟨x, y, h⟩ := bez p a.natAbs
  rw [hP.gcd hnd] at h
  have s : ∃ t : Int, (p : Int) ∣ a * t - 1 := by
    rcases Int.natAbs_eq a with e | e
    · exact ⟨y, -x, by grind⟩
    · exact ⟨-y, -x, by grind⟩
  obtain ⟨t, k, hk⟩ := s
  refine ⟨t % p, Int.emod_nonneg _ (by omega), Int.emod_lt_of_pos _ (by omega), ?_⟩
  obtain ⟨j, hj⟩ := dvd_emod p t
  exact ⟨k + a * j, by grind⟩

def sm : Nat → (Nat → Int) → Int
  | 0, _ => 0
  | n + 1, f => sm n f + f n
theorem sm_congr {f g : Nat → Int} : ∀ {n : Nat}, (∀ i, i < n → f i = g i) → sm n f = sm n g
  | 0, _ => rfl
  | n + 1, h => by rw [sm, sm, sm_congr fun i hi => h i (by omega), h n (by omega)]
theorem sm_add (f g : Nat → Int) : ∀ n : Nat, sm n (fun i => f i + g i) = sm n f + sm n g
  | 0 => rfl
  | n + 1 => by rw [sm, sm, sm, sm_add f g n]; omega
theorem sm_mul (c : Int) (f : Nat → Int) : ∀ n : Nat, sm n (fun i => f i * c) = sm n f * c
  | 0 => by simp [sm]
  | n + 1 => by rw [sm, sm, sm_mul c f n, Int.add_mul]
theorem sm_zero : ∀ n : Nat, sm n (fun _ => 0) = 0
  | 0 => rfl
  | n + 1 => by rw [sm, sm_zero n]; rfl
theorem sm_comm (g : Nat → Nat → Int) (e : Nat) : ∀ d : Nat, sm d (fun i => sm e (fun j => g i j)) = sm e (fun j => sm d (fun i => g i j))
  | 0 => by rw [sm]; exact (sm_zero e).symm
  | d + 1 => by
    rw [sm, sm_comm g e d, ← sm_add]
    rfl
theorem ev_app (x : Int) (z : Int) : ∀ a : List Int, ev x (a ++ [z]) = ev x a + z * x ^ a.length
  | [] => by simp [ev]
  | c :: a => by
    rw [List.cons_append]
    show c + x * ev x (a ++ [z]) = (c + x * ev x a) + z * x ^ (a.length + 1)
    rw [ev_app x z a, Int.mul_add, Int.pow_succ, Int.mul_left_comm, Int.mul_comm x (x ^ a.length)]; omega
theorem ev_sm (x : Int) (f : Nat → Int) : ∀ d : Nat, ev x ((List.range d).map f) = sm d (fun i => f i * x ^ i)
  | 0 => rfl
  | d + 1 => by rw [List.range_succ, List.map_append, List.map_singleton, ev_app, ev_sm x f d, List.length_map, List.length_range]; rfl
theorem ev_mod (p y : Int) (f : Nat → Int) : ∀ l : List Nat, p ∣ ev y (l.map fun i => f i % p) - ev y (l.map f)
  | [] => ⟨0, by simp [ev]⟩
  | i :: l => by
    obtain ⟨k, hk⟩ := ev_mod p y f l
    obtain ⟨j, hj⟩ := dvd_emod p (f i)
    refine ⟨j + y * k, ?_⟩
    rw [List.map_cons, List.map_cons]
    show (f i % p + y * ev y (l.map fun i => f i % p)) - (f i + y * ev y (l.map f)) = _
    rw [show ev y (l.map fun i => f i % p) = ev y (l.map f) + p * k by omega, Int.mul_add, Int.mul_add, Int.mul_left_comm]; omega
abbrev colL (d : Nat) (T : Nat → Nat → Int) (c : Nat) : List Int := (List.range d).map fun r => T r c
abbrev keptL (p : Int) (d : Nat) (T : Nat → Nat → Int) (x : Int) : List Int := (List.range d).map fun c => hor p x (colL d T c)
/-- what one house tells for another one is what that one tells for it -/
theorem across {p : Int} {d : Nat} {T : Nat → Nat → Int} (hT : ∀ r c, T r c = T c r) (x y : Int) : hor p y (keptL p d T x) = hor p x (keptL p d T y) := by
  have key : ∀ x y : Int, hor p y (keptL p d T x) = (sm d (fun c => (sm d (fun r => T r c * x ^ r)) * y ^ c)) % p := by
    intro x y
    rw [hor_ev]
    have e : keptL p d T x = (List.range d).map fun c => (fun c => sm d (fun r => T r c * x ^ r)) c % p := by
      unfold keptL
      refine List.map_congr_left fun c _ => ?_
      rw [hor_ev, ev_sm]
    rw [e]
    have h := emod_congr (ev_mod p y (fun c => sm d (fun r => T r c * x ^ r)) (List.range d))
    rw [h, ev_sm]
  rw [key, key]
  congr 1
  have e1 : sm d (fun c => sm d (fun r => T r c * x ^ r) * y ^ c) = sm d (fun c => sm d (fun r => T r c * x ^ r * y ^ c)) := sm_congr fun c _ => (sm_mul _ _ _).symm
  have e2 : sm d (fun c => sm d (fun r => T r c * y ^ r) * x ^ c) = sm d (fun c => sm d (fun r => T r c * y ^ r * x ^ c)) := sm_congr fun c _ => (sm_mul _ _ _).symm
  rw [e1, e2, sm_comm]
  exact sm_congr fun r _ => sm_congr fun c _ => by rw [hT r c, Int.mul_assoc, Int.mul_assoc, Int.mul_comm (x ^ r)]
def pw (p x : Int) : Nat → Int
  | 0 => 1
  | n + 1 => pw p x n * x % p
def pwl (p x : Int) (n : Nat) : List Int := (List.range n).map (pw p x)
theorem pwl_succ (p x : Int) (n : Nat) : pwl p x (n + 1) = pwl p x n ++ [pw p x n] := by simp [pwl, List.range_succ]
theorem pwl_len (p x : Int) (n : Nat) : (pwl p x n).length = n := by simp [pwl]
theorem pw_dvd (p x : Int) : ∀ n : Nat, p ∣ pw p x n - x ^ n
  | 0 => ⟨0, by simp [pw]⟩
  | n + 1 => by
    obtain ⟨k, hk⟩ := pw_dvd p x n
    obtain ⟨j, hj⟩ := dvd_emod p (pw p x n * x)
    refine ⟨j + k * x, ?_⟩
    have e : pw p x (n + 1) = pw p x n * x % p := rfl
    have e2 : pw p x n = x ^ n + p * k := by omega
    have e3 : pw p x n * x = x ^ n * x + p * (k * x) := by rw [e2, Int.add_mul, Int.mul_assoc]
    rw [e, Int.pow_succ, Int.mul_add]; omega
theorem pw_in {p x : Int} (hp : 1 < p) : ∀ n : Nat, 0 ≤ pw p x n ∧ pw p x n < p
  | 0 => ⟨by simp [pw], hp⟩
  | n + 1 => ⟨Int.emod_nonneg _ (by omega), Int.emod_lt_of_pos _ (by omega)⟩
theorem sm_dvd {p : Int} {f g : Nat → Int} : ∀ {n : Nat}, (∀ i, i < n → p ∣ f i - g i) → p ∣ sm n f - sm n g
  | 0, _ => ⟨0, by simp [sm]⟩
  | n + 1, h => by
    obtain ⟨a, ha⟩ := sm_dvd (n := n) (fun i hi => h i (Nat.lt_succ_of_lt hi))
    obtain ⟨c, hc⟩ := h n (by omega)
    refine ⟨a + c, ?_⟩
    rw [sm, sm, Int.mul_add]; omega
theorem keep_at (p x : Int) (T : Nat → Nat → Int) (d c : Nat) : sm d (fun r => pw p x r * T r c) % p = hor p x (colL d T c) := by
  rw [hor_ev, ev_sm]
  apply emod_congr
  refine sm_dvd fun r _ => ?_
  obtain ⟨k, hk⟩ := pw_dvd p x r
  refine ⟨k * T r c, ?_⟩
  have e : pw p x r = x ^ r + p * k := by omega
  rw [e, Int.add_mul, Int.mul_comm (T r c), Int.mul_assoc]; omega
def lowB (k d : Nat) (T : Nat → Nat → Int) : Bool := (List.range (d - k)).any fun r => (List.range (d - k)).any fun c => T (k + r) (k + c) != 0
def symB (d : Nat) (T : Nat → Nat → Int) : Bool := (List.range d).all fun r => (List.range r).all fun c => T r c == T c r
def tabOkB (k d : Nat) (T : Nat → Nat → Int) : Bool := !lowB k d T && symB d T
theorem tabOk_iff {k d : Nat} {T : Nat → Nat → Int} : tabOkB k d T = true ↔ (∀ r c, r < d → c < d → T r c = T c r) ∧ ∀ r c, k ≤ r → r < d → k ≤ c → c < d → T r c = 0 := by
  unfold tabOkB lowB symB
  rw [Bool.and_eq_true, Bool.not_eq_true', List.any_eq_false, List.all_eq_true]
  constructor
  · rintro ⟨h1, h2⟩
    refine ⟨fun r c hr hc => ?_, fun r c k1 k2 k3 k4 => ?_⟩
    · rcases Nat.lt_trichotomy r c with q | q | q
      · have := h2 c (List.mem_range.mpr hc)
        rw [List.all_eq_true] at this
        have := this r (List.mem_range.mpr q)
        rw [beq_iff_eq] at this
        exact this.symm
      · rw [q]
      · have := h2 r (List.mem_range.mpr hr)
        rw [List.all_eq_true] at this
        have := this c (List.mem_range.mpr q)
        rw [beq_iff_eq] at this
        exact this
    · have := h1 (r - k) (List.mem_range.mpr (by omega))
      rw [Bool.not_eq_true, List.any_eq_false] at this
      have := this (c - k) (List.mem_range.mpr (by omega))
      rw [show k + (r - k) = r by omega, show k + (c - k) = c by omega] at this
      simpa using this
  · rintro ⟨h1, h2⟩
    refine ⟨fun r hr => ?_, fun r hr => ?_⟩
    · rw [Bool.not_eq_true, List.any_eq_false]
      intro c hc
      rw [List.mem_range] at hr hc
      have := h2 (k + r) (k + c) (by omega) (by omega) (by omega) (by omega)
      simp [this]
    · rw [List.all_eq_true]
      intro c hc
      rw [List.mem_range] at hr hc
      rw [beq_iff_eq]
      exact h1 r c hr (by omega)
structure Prs (p d : Nat) (qs : List (Int × List Int)) : Prop where
  ln : qs.length ≤ 20
  bx : ∀ q ∈ qs, 0 ≤ q.1 ∧ q.1 < (p : Int)
  rl : ∀ q ∈ qs, q.2.length = d
  rb : ∀ q ∈ qs, ∀ z ∈ q.2, 0 ≤ z ∧ z < (p : Int)
  un : qs.Pairwise fun a b => ¬ (p : Int) ∣ a.1 - b.1
theorem ev_cat (x : Int) (b : List Int) : ∀ a : List Int, ev x (a ++ b) = ev x a + x ^ a.length * ev x b
  | [] => by simp [ev]
  | z :: a => by
    rw [List.cons_append]
    show z + x * ev x (a ++ b) = (z + x * ev x a) + x ^ (a.length + 1) * ev x b
    rw [ev_cat x b a, Int.mul_add, Int.pow_succ, Int.mul_comm (x ^ a.length) x, Int.mul_assoc]; omega
theorem ev_rep0 (x : Int) : ∀ n : Nat, ev x (List.replicate n 0) = 0
  | 0 => rfl
  | n + 1 => by rw [List.replicate_succ]; show 0 + x * ev x (List.replicate n 0) = 0; rw [ev_rep0 x n]; simp
theorem getD_bd {p : Int} {zs : List Int} (hp : 0 < p) (h : ∀ z ∈ zs, 0 ≤ z ∧ z < p) (i : Nat) : 0 ≤ zs.getD i 0 ∧ zs.getD i 0 < p := by
  rw [List.getD_eq_getElem?_getD]
  cases e : zs[i]? with
  | none => exact ⟨Int.le_refl 0, hp⟩
  | some z => exact h z (List.mem_of_getElem? e)
/-- a table of the shape -/
structure Tab (p : Int) (k d : Nat) (T : Nat → Nat → Int) : Prop where
  b : ∀ r c, 0 ≤ T r c ∧ T r c < p
  sym : ∀ r c, r < d → c < d → T r c = T c r
  low : ∀ r c, k ≤ r → r < d → k ≤ c → c < d → T r c = 0
theorem Tab.ok {p : Int} {k d : Nat} {T : Nat → Nat → Int} (h : Tab p k d T) : tabOkB k d T = true := tabOk_iff.mpr ⟨h.sym, h.low⟩
abbrev clT (d : Nat) (C : Nat → List Int) (r c : Nat) : Int := if r < d then (C r).getD c 0 else 0
theorem kept_b {p x : Int} {d : Nat} {T : Nat → Nat → Int} (hp : 0 < p) : ∀ z ∈ keptL p d T x, 0 ≤ z ∧ z < p := by
  intro z hz
  obtain ⟨c, _, rfl⟩ := List.mem_map.mp hz
  exact hor_lt hp _
theorem kept_len {p x : Int} {d : Nat} {T : Nat → Nat → Int} : (keptL p d T x).length = d := by rw [List.length_map, List.length_range]
/-- column j: through the pairs, and below k the same as the columns below -/
def ColOk (p k d : Nat) (qs : List (Int × List Int)) (C : Nat → List Int) (j : Nat) : Prop :=
  (∀ q ∈ qs, hor p q.1 (C j) = q.2.getD j 0) ∧ (k ≤ j → ∀ r, k ≤ r → r < d → (C j).getD r 0 = 0) ∧ (j < k → ∀ r, k ≤ r → r < d → (C j).getD r 0 = (C r).getD j 0)
theorem col_hor {p : Nat} (hP : PrP p) {d k c : Nat} {qs : List (Int × List Int)} (h : Prs p d qs) {q : Int × List Int} (hq : q ∈ qs) (hk : qs.length = k) {lower up : List Int} (ul : up.length = k) (uw : hor p q.1 up = (q.2.getD c 0 - hor p q.1 (List.replicate k 0 ++ lower)) % p) : hor p q.1 (up ++ lower) = q.2.getD c 0 := by
  have hp1 := hP.1
  have b := getD_bd (p := (p : Int)) (zs := q.2) (by omega) (h.rb q hq) c
  rw [← Int.emod_eq_of_lt b.1 b.2, hor_ev, ev_cat, ul]
  rw [hor_ev, hor_ev, ev_cat, ev_rep0, Int.zero_add, List.length_replicate] at uw
  apply emod_congr
  obtain ⟨i, hi⟩ := dvd_emod p (ev q.1 up)
  obtain ⟨j, hj⟩ := dvd_emod p (q.1 ^ k * ev q.1 lower)
  obtain ⟨m, hm⟩ := dvd_emod p (q.2.getD c 0 - q.1 ^ k * ev q.1 lower % (p : Int))
  refine ⟨m - i - j, ?_⟩
  rw [uw] at hi
  rw [Int.mul_sub, Int.mul_sub]; omega
theorem across2 {p : Int} {d : Nat} (T : Nat → Nat → Int) (x y : Int) : hor p y (keptL p d T x) = hor p x (keptL p d (fun r c => T c r) y) := by
  have key : ∀ (T : Nat → Nat → Int) (x y : Int), hor p y (keptL p d T x) = (sm d (fun c => (sm d (fun r => T r c * x ^ r)) * y ^ c)) % p := by
    intro T x y
    rw [hor_ev]
    have e : keptL p d T x = (List.range d).map fun c => (fun c => sm d (fun r => T r c * x ^ r)) c % p := by
      unfold keptL
      refine List.map_congr_left fun c _ => ?_
      rw [hor_ev, ev_sm]
    rw [e]
    have h := emod_congr (ev_mod p y (fun c => sm d (fun r => T r c * x ^ r)) (List.range d))
    rw [h, ev_sm]
  rw [key, key]
  congr 1
  have e1 : sm d (fun c => sm d (fun r => T r c * x ^ r) * y ^ c) = sm d (fun c => sm d (fun r => T r c * x ^ r * y ^ c)) := sm_congr fun c _ => (sm_mul _ _ _).symm
  have e2 : sm d (fun c => sm d (fun r => T c r * y ^ r) * x ^ c) = sm d (fun c => sm d (fun r => T c r * y ^ r * x ^ c)) := sm_congr fun c _ => (sm_mul _ _ _).symm
  rw [e1, e2, sm_comm]
  exact sm_congr fun r _ => sm_congr fun c _ => by rw [Int.mul_right_comm]
theorem tail_one {p : Nat} (hP : PrP p) {k : Nat} {xs a b : List Int} (hl : a.length = b.length) (hk : k ≤ a.length) (hx : xs.length = k) (ha : ∀ z ∈ a, 0 ≤ z ∧ z < (p : Int)) (hb : ∀ z ∈ b, 0 ≤ z ∧ z < (p : Int)) (un : xs.Pairwise fun x y => ¬ (p : Int) ∣ x - y) (ht : a.drop k = b.drop k) (h : ∀ x ∈ xs, hor p x a = hor p x b) : a = b := by
  have : a.take k = b.take k := by
    refine rows_unique hP (xs := xs) (by rw [List.length_take, List.length_take, hl]) (by rw [List.length_take]; omega) (fun z hz => ha z (List.mem_of_mem_take hz)) (fun z hz => hb z (List.mem_of_mem_take hz)) un fun x hxm => ?_
    have e := h x hxm
    rw [hor_ev, hor_ev] at e ⊢
    have d1 : (p : Int) ∣ ev x a - ev x b := Int.dvd_of_emod_eq_zero (Int.emod_eq_emod_iff_emod_sub_eq_zero.mp e)
    apply emod_congr
    have ea : ev x a = ev x (a.take k) + x ^ k * ev x (a.drop k) := by
      rw [← List.take_append_drop k a, ev_cat, List.take_append_drop, List.length_take, Nat.min_eq_left hk]
    have eb : ev x b = ev x (b.take k) + x ^ k * ev x (b.drop k) := by
      rw [← List.take_append_drop k b, ev_cat, List.take_append_drop, List.length_take, Nat.min_eq_left (by omega)]
    rw [ea, eb, ht] at d1
    rwa [show ev x (a.take k) + x ^ k * ev x (b.drop k) - (ev x (b.take k) + x ^ k * ev x (b.drop k)) = ev x (a.take k) - ev x (b.take k) by omega] at d1
  rw [← List.take_append_drop k a, this, ht, List.take_append_drop]
theorem drop_map {k d : Nat} {f g : Nat → Int} (h : ∀ c, k ≤ c → c < d → f c = g c) : ((List.range d).map f).drop k = ((List.range d).map g).drop k := by
  refine List.ext_getElem? fun i => ?_
  rw [List.getElem?_drop, List.getElem?_drop, List.getElem?_map, List.getElem?_map]
  by_cases hi : k + i < d
  · rw [List.getElem?_range hi]
    show some _ = some _
    rw [h (k + i) (by omega) hi]
  · rw [List.getElem?_eq_none (by rw [List.length_range]; omega)]; rfl
theorem map_at2 {d : Nat} {f g : Nat → Int} (h : (List.range d).map f = (List.range d).map g) {c : Nat} (hc : c < d) : f c = g c := by
  have := congrArg (fun l => l[c]?) h
  simp only [List.getElem?_map, List.getElem?_range hc, Option.map_some] at this
  exact Option.some.inj this
def Alike (p : Int) (qs : List (Int × List Int)) : Prop := ∀ q ∈ qs, ∀ r ∈ qs, hor p r.1 q.2 = hor p q.1 r.2
theorem getD_map {zs : List Int} {d : Nat} (h : zs.length = d) : (List.range d).map (fun r => zs.getD r 0) = zs := by
  refine List.ext_getElem? fun i => ?_
  rw [List.getElem?_map]
  by_cases hi : i < d
  · rw [List.getElem?_range hi, List.getElem?_eq_getElem (by omega)]
    simp [List.getD_eq_getElem?_getD, List.getElem?_eq_getElem (show i < zs.length by omega)]
  · rw [List.getElem?_eq_none (by rw [List.length_range]; omega), List.getElem?_eq_none (by omega)]; rfl
/-- columns through the rows: the rows are kept of them -/
theorem cols_kept {p k d : Nat} {qs : List (Int × List Int)} {C : Nat → List Int} (hC : ∀ j, j < d → (C j).length = d ∧ ∀ z ∈ C j, 0 ≤ z ∧ z < (p : Int)) (hK : ∀ j, j < d → ColOk p k d qs C j) {q : Int × List Int} (hq : q ∈ qs) (hl : q.2.length = d) : keptL p d (fun r c => (C c).getD r 0) q.1 = q.2 := by
  unfold keptL
  rw [← getD_map hl]
  refine List.map_congr_left fun c hc => ?_
  have hc' := List.mem_range.mp hc
  rw [show colL d (fun r c => (C c).getD r 0) c = C c from getD_map (hC c hc').1, (hK c hc').1 q hq]
theorem alike_iff {p : Nat} (hP : PrP p) {k d : Nat} (hk : k ≤ d) {qs : List (Int × List Int)} (h : Prs p d qs) (hl : qs.length = k) {C : Nat → List Int} (hC : ∀ j, j < d → (C j).length = d ∧ ∀ z ∈ C j, 0 ≤ z ∧ z < (p : Int)) (hK : ∀ j, j < d → ColOk p k d qs C j) : tabOkB k d (clT d C) = true ↔ Alike p qs := by
  have hp1 := hP.1
  have kp : ∀ q ∈ qs, keptL p d (fun r c => (C c).getD r 0) q.1 = q.2 := fun q hq => cols_kept hC hK hq (h.rl q hq)
  have cl : ∀ r c, r < d → clT d C r c = (C r).getD c 0 := fun r c hr => by unfold clT; rw [if_pos hr]
  constructor
  · intro ht
    obtain ⟨t1, t2⟩ := tabOk_iff.mp ht
    intro q hq r hr
    rw [← kp q hq, ← kp r hr, across2 _ q.1 r.1]
    have : keptL p d (fun r c => (C r).getD c 0) r.1 = keptL p d (fun r c => (C c).getD r 0) r.1 := by
      unfold keptL
      refine List.map_congr_left fun c hc => ?_
      have hc' := List.mem_range.mp hc
      congr 1
      refine List.map_congr_left fun a ha => ?_
      have ha' := List.mem_range.mp ha
      have := t1 a c ha' hc'
      rwa [cl a c ha', cl c a hc'] at this
    rw [← this]
  · intro al
    have un : (qs.map Prod.fst).Pairwise fun x y => ¬ (p : Int) ∣ x - y := by rw [List.pairwise_map]; exact h.un
    have low : ∀ a c, a < d → c < d → k ≤ c → (C c).getD a 0 = (C a).getD c 0 := by
      intro a c ha hc hkc
      obtain ⟨_, k2, k3⟩ := hK c hc
      obtain ⟨_, j2, j3⟩ := hK a ha
      by_cases hka : k ≤ a
      · rw [k2 hkc a hka ha, j2 hka c hkc hc]
      · rw [j3 (by omega) c hkc hc]
    have b : ∀ a c, 0 ≤ (C c).getD a 0 ∧ (C c).getD a 0 < (p : Int) ∨ ¬ c < d := by
      intro a c
      by_cases hc : c < d
      · exact .inl (getD_bd (by omega) (hC c hc).2 a)
      · exact .inr hc
    have s1 : ∀ q ∈ qs, keptL p d (fun r c => (C c).getD r 0) q.1 = keptL p d (fun r c => (C r).getD c 0) q.1 := by
      intro q hq
      refine tail_one hP (k := k) (xs := qs.map Prod.fst) (by rw [kept_len, kept_len]) (by rw [kept_len]; exact hk) (by rw [List.length_map]; exact hl) (kept_b (by omega)) (kept_b (by omega)) un ?_ ?_
      · unfold keptL
        refine drop_map fun c h1 h2 => ?_
        congr 1
        refine List.map_congr_left fun a ha => ?_
        exact low a c (List.mem_range.mp ha) h2 h1
      · intro x hx
        obtain ⟨r, hr, rfl⟩ := List.mem_map.mp hx
        have e := al q hq r hr
        rw [← across2 (fun r c => (C c).getD r 0) r.1 q.1, kp q hq, kp r hr]
        exact e
    have sy : ∀ a c, a < d → c < d → (C c).getD a 0 = (C a).getD c 0 := by
      intro a c ha hc
      have : (List.range d).map (fun r => (C c).getD r 0) = (List.range d).map (fun r => (C r).getD c 0) := by
        refine tail_one hP (k := k) (xs := qs.map Prod.fst) (by rw [List.length_map, List.length_map]) (by rw [List.length_map, List.length_range]; exact hk) (by rw [List.length_map]; exact hl) ?_ ?_ un ?_ ?_
        · intro z hz
          obtain ⟨r, _, rfl⟩ := List.mem_map.mp hz
          exact getD_bd (by omega) (hC c hc).2 r
        · intro z hz
          obtain ⟨r, hr, rfl⟩ := List.mem_map.mp hz
          exact getD_bd (by omega) (hC r (List.mem_range.mp hr)).2 c
        · exact drop_map fun r h1 h2 => (low c r hc h2 h1).symm
        · intro x hx
          obtain ⟨q, hq, rfl⟩ := List.mem_map.mp hx
          exact map_at2 (s1 q hq) hc
      exact map_at2 this ha
    rw [tabOk_iff]
    refine ⟨fun r c hr hc => ?_, fun r c h1 h2 h3 h4 => ?_⟩
    · rw [cl r c hr, cl c r hc]
      exact sy c r hc hr
    · rw [cl r c h2]
      exact (hK r h2).2.1 h1 c h3 h4

theorem made_ext {p : Nat} {A B : List RR.Rw} (h1 : ∀ a ∈ A, RR.Made p B a) (h2 : ∀ b ∈ B, RR.Made p A b) (v : RR.Rw) : RR.Made p A v ↔ RR.Made p B v := ⟨fun m => m.trans h1, fun m => m.trans h2⟩
theorem sp_apps {p : Nat} {D R : List (List Int)} (h : ∀ r ∈ R, RR.Sp p D (RR.fn r)) (v : RR.Rw) : RR.Sp p (D ++ R) v ↔ RR.Sp p D v := by
  refine made_ext (fun a ha => ?_) (fun b hb => ?_) v
  · rw [List.map_append] at ha
    rcases List.mem_append.mp ha with ha | ha
    · exact RR.Made.of ha
    · obtain ⟨r, hr, rfl⟩ := List.mem_map.mp ha
      exact h r hr
  · exact RR.Made.of (by rw [List.map_append]; exact List.mem_append_left _ hb)
theorem sp_of {p : Nat} {R : List (List Int)} {r : List Int} (h : r ∈ R) : RR.Sp p R (RR.fn r) := RR.Made.of (List.mem_map_of_mem h)
theorem sp_sub {p : Nat} {A B : List (List Int)} (h : ∀ a ∈ A, RR.Sp p B (RR.fn a)) {v : RR.Rw} (m : RR.Sp p A v) : RR.Sp p B v := RR.Made.trans (fun a ha => by
  obtain ⟨r, hr, rfl⟩ := List.mem_map.mp ha
  exact h r hr) m
theorem sp_iff {p : Nat} {A B : List (List Int)} (h : ∀ a ∈ A, RR.Sp p B (RR.fn a)) (h2 : ∀ a ∈ B, RR.Sp p A (RR.fn a)) (v : RR.Rw) : RR.Sp p A v ↔ RR.Sp p B v := ⟨sp_sub h, sp_sub h2⟩
theorem grow_sp {p n : Nat} (hp : 2 ≤ p) {G : List (Nat × List Int)} (h : RR.PF p n G) {D : List (List Int)} (sp : ∀ v, RR.Sp p (RR.rws G) v ↔ RR.Sp p D v) {r : List Int} (hr : RR.Bd p n r) {c : Nat} {inv : Int} (hi : (p : Int) ∣ RR.fn (RR.lov p G r) c * inv - 1) (v : RR.Rw) : RR.Sp p (RR.rws (RR.grw p n G c inv (RR.lov p G r))) v ↔ RR.Sp p (D ++ [r]) v := by
  have hb := (RR.lov_ok (by omega : 0 < p) h hr).1
  have inG : ∀ x : RR.Rw, ∀ g ∈ G, RR.fn g.2 ∈ x :: (RR.rws G).map RR.fn := fun x g hg => List.mem_cons_of_mem _ (List.mem_map_of_mem (List.mem_map_of_mem hg))
  rw [RR.grw_sp hp h hb hi v]
  have s1 : RR.Made p (RR.fn (RR.lov p G r) :: (RR.rws G).map RR.fn) v ↔ RR.Made p (RR.fn r :: (RR.rws G).map RR.fn) v := made_ext (fun a ha => by
      rcases List.mem_cons.mp ha with e | e
      · subst e
        exact (RR.lov_sp (by omega) h hr (inG _)).mp (RR.Made.of List.mem_cons_self)
      · exact RR.Made.of (List.mem_cons_of_mem _ e)) (fun a ha => by
      rcases List.mem_cons.mp ha with e | e
      · subst e
        exact (RR.lov_sp (by omega) h hr (inG _)).mpr (RR.Made.of List.mem_cons_self)
      · exact RR.Made.of (List.mem_cons_of_mem _ e)) v
  rw [s1]
  refine made_ext (fun a ha => ?_) (fun b hb => ?_) v
  · rcases List.mem_cons.mp ha with e | e
    · subst e
      exact sp_of (by simp)
    · obtain ⟨l, hl, rfl⟩ := List.mem_map.mp e
      exact sp_sub (fun a ha => sp_of (List.mem_append_left _ ha)) ((sp (RR.fn l)).mp (sp_of hl))
  · obtain ⟨l, hl, rfl⟩ := List.mem_map.mp hb
    rcases List.mem_append.mp hl with e | e
    · exact ((sp (RR.fn l)).mpr (sp_of e)).mono fun x hx => List.mem_cons_of_mem _ hx
    · rw [List.mem_singleton] at e
      subst e
      exact RR.Made.of List.mem_cons_self
end Sm

namespace Sm
/-! ### a row through points -/
theorem hor_mod {p x : Int} {rs : List Int} {z : Int} (h : p ∣ ev x rs - z) : hor p x rs = z % p := by
  rw [hor_ev]; exact emod_congr h
theorem ev_mods (p x : Int) : ∀ rs : List Int, p ∣ ev x (rs.map fun z => z % p) - ev x rs
  | [] => ⟨0, by simp [ev]⟩
  | r :: rs => by
    obtain ⟨k, hk⟩ := ev_mods p x rs
    obtain ⟨j, hj⟩ := dvd_emod p r
    refine ⟨j + x * k, ?_⟩
    show (r % p + x * ev x (rs.map fun z => z % p)) - (r + x * ev x rs) = _
    grind
def van (p : Int) : List Int → List Int
  | [] => [1]
  | x :: xs => plusL p (-x) (0 :: van p xs) (van p xs ++ [0])
theorem van_len (p : Int) : ∀ xs : List Int, (van p xs).length = xs.length + 1
  | [] => rfl
  | x :: xs => by
    rw [van, plus_len (by simp), List.length_cons, van_len p xs, List.length_cons]
theorem van_ev (p x z : Int) (xs : List Int) : p ∣ ev z (van p (x :: xs)) - (z - x) * ev z (van p xs) := by
  obtain ⟨k, hk⟩ := ev_plus p z (-x) (0 :: van p xs) (van p xs ++ [0]) (by simp)
  rw [van]
  rw [ev_snoc0] at hk
  have : ev z (0 :: van p xs) = 0 + z * ev z (van p xs) := rfl
  rw [this] at hk
  exact ⟨k, by grind⟩
theorem van_in {p : Int} : ∀ {xs : List Int} {x : Int}, x ∈ xs → p ∣ ev x (van p xs)
  | y :: xs, x, h => by
    obtain ⟨k, hk⟩ := van_ev p y x xs
    rcases List.mem_cons.mp h with e | e
    · subst e
      exact ⟨k, by grind⟩
    · obtain ⟨j, hj⟩ := van_in (p := p) e
      exact ⟨k + (x - y) * j, by grind⟩
theorem van_out {p : Nat} (hP : PrP p) {z : Int} : ∀ {xs : List Int}, (∀ x ∈ xs, ¬ (p : Int) ∣ z - x) → ¬ (p : Int) ∣ ev z (van p xs)
  | [], _ => fun h => by
    have h1 := hP.1
    have e : ev z (van (p : Int) []) = 1 + z * 0 := rfl
    rw [e] at h
    have := Int.le_of_dvd (by omega) h
    omega
  | x :: xs, h => fun hd => by
    have hx := h x List.mem_cons_self
    have ih := van_out hP (z := z) (xs := xs) fun y hy => h y (List.mem_cons_of_mem _ hy)
    obtain ⟨k, hk⟩ := van_ev (p : Int) x z xs
    obtain ⟨j, hj⟩ := hd
    exact ih (hP.mul (a := z - x) ⟨j - k, by grind⟩ hx)
theorem interp {p : Nat} (hP : PrP p) : ∀ ps : List (Int × Int), ps.Pairwise (fun a b => ¬ (p : Int) ∣ a.1 - b.1) → ∃ row : List Int, row.length = ps.length ∧ ∀ q ∈ ps, (p : Int) ∣ ev q.1 row - q.2
  | [], _ => ⟨[], rfl, fun _ h => nomatch h⟩
  | q :: ps, h => by
    obtain ⟨h1, h2⟩ := List.pairwise_cons.mp h
    obtain ⟨row, rl, rw_⟩ := interp hP ps h2
    have nv : ¬ (p : Int) ∣ ev q.1 (van p (ps.map Prod.fst)) := van_out hP fun x hx => by
      obtain ⟨r, hr, rfl⟩ := List.mem_map.mp hx
      exact h1 r hr
    obtain ⟨c, _, _, t, hc⟩ := inv_ex hP nv
    have vl : (van (p : Int) (ps.map Prod.fst)).length = ps.length + 1 := by rw [van_len, List.length_map]
    refine ⟨plusL p (c * (q.2 - ev q.1 row)) (row ++ [0]) (van p (ps.map Prod.fst)), by rw [plus_len (by rw [vl, List.length_append, rl]; rfl), List.length_append, rl]; rfl, fun r hr => ?_⟩
    obtain ⟨k, hk⟩ := ev_plus p r.1 (c * (q.2 - ev q.1 row)) (row ++ [0]) (van p (ps.map Prod.fst)) (by rw [vl, List.length_append, rl]; rfl)
    rw [ev_snoc0] at hk
    rcases List.mem_cons.mp hr with e | e
    · subst e
      exact ⟨k + t * (r.2 - ev r.1 row), by grind⟩
    · obtain ⟨j, hj⟩ := van_in (p := (p : Int)) (List.mem_map_of_mem (f := Prod.fst) e)
      obtain ⟨i, hi⟩ := rw_ r e
      exact ⟨k + i + c * (q.2 - ev q.1 row) * j, by grind⟩
/-- with a tail told -/
theorem interp_tail {p : Nat} (hP : PrP p) {k : Nat} {qs : List (Int × List Int)} (hl : qs.length = k) (un : qs.Pairwise fun a b => ¬ (p : Int) ∣ a.1 - b.1) (y : Int × List Int → Int) (hy : ∀ q ∈ qs, 0 ≤ y q ∧ y q < p) (lower : List Int) (hb : ∀ z ∈ lower, 0 ≤ z ∧ z < (p : Int)) :
    ∃ col : List Int, col.length = k + lower.length ∧ (∀ z ∈ col, 0 ≤ z ∧ z < (p : Int)) ∧ (∀ i, col.getD (k + i) 0 = lower.getD i 0) ∧ ∀ q ∈ qs, hor p q.1 col = y q := by
  have hp1 := hP.1
  obtain ⟨row, rl, hr⟩ := interp hP (qs.map fun q => (q.1, y q - q.1 ^ k * ev q.1 lower)) (by rw [List.pairwise_map]; exact un)
  rw [List.length_map, hl] at rl
  refine ⟨(row.map fun z => z % (p : Int)) ++ lower, by rw [List.length_append, List.length_map, rl], fun z hz => ?_, fun i => ?_, fun q hq => ?_⟩
  · rcases List.mem_append.mp hz with e | e
    · obtain ⟨a, _, rfl⟩ := List.mem_map.mp e
      exact ⟨Int.emod_nonneg _ (by omega), Int.emod_lt_of_pos _ (by omega)⟩
    · exact hb z e
  · rw [List.getD_eq_getElem?_getD, List.getElem?_append_right (by rw [List.length_map, rl]; omega), List.length_map, rl, Nat.add_sub_cancel_left, ← List.getD_eq_getElem?_getD]
  · obtain ⟨j, hj⟩ := hr _ (List.mem_map_of_mem (f := fun q : Int × List Int => (q.1, y q - q.1 ^ k * ev q.1 lower)) hq)
    dsimp only at hj
    obtain ⟨i, hi⟩ := ev_mods p q.1 row
    rw [hor_mod (z := y q), Int.emod_eq_of_lt (hy q hq).1 (hy q hq).2]
    rw [ev_cat, List.length_map, rl]
    exact ⟨i + j, by grind⟩
/-! ### tables that some houses keep so -/
theorem table_ex {p : Nat} (hP : PrP p) {k d : Nat} (hk : k ≤ d) {qs : List (Int × List Int)} (h : Prs p d qs) (hl : qs.length = k) (al : Alike p qs) : ∃ T : Nat → Nat → Int, Tab p k d T ∧ ∀ q ∈ qs, keptL p d T q.1 = q.2 := by
  have hp1 := hP.1
  have p0 : (0 : Int) < p := by omega
  -- the last columns
  have hi : ∀ j, ∃ col : List Int, col.length = k + (d - k) ∧ (∀ z ∈ col, 0 ≤ z ∧ z < (p : Int)) ∧ (∀ i, col.getD (k + i) 0 = 0) ∧ ∀ q ∈ qs, hor p q.1 col = q.2.getD j 0 := fun j => by
    obtain ⟨col, c1, c2, c3, c4⟩ := interp_tail hP hl h.un (fun q => q.2.getD j 0) (fun q hq => getD_bd p0 (h.rb q hq) j) (List.replicate (d - k) 0) (fun z hz => by rw [List.eq_of_mem_replicate hz]; omega)
    refine ⟨col, by rw [c1, List.length_replicate], c2, fun i => ?_, c4⟩
    rw [c3, List.getD_eq_getElem?_getD, List.getElem?_replicate]
    split <;> rfl
  obtain ⟨H, hH⟩ := Classical.axiomOfChoice hi
  have lo : ∀ j, ∃ col : List Int, col.length = k + (d - k) ∧ (∀ z ∈ col, 0 ≤ z ∧ z < (p : Int)) ∧ (∀ i, i < d - k → col.getD (k + i) 0 = (H (k + i)).getD j 0) ∧ ∀ q ∈ qs, hor p q.1 col = q.2.getD j 0 := fun j => by
    obtain ⟨col, c1, c2, c3, c4⟩ := interp_tail hP hl h.un (fun q => q.2.getD j 0) (fun q hq => getD_bd p0 (h.rb q hq) j) ((List.range (d - k)).map fun i => (H (k + i)).getD j 0) (fun z hz => by
      obtain ⟨i, _, rfl⟩ := List.mem_map.mp hz
      exact getD_bd p0 (hH (k + i)).2.1 j)
    refine ⟨col, by rw [c1, List.length_map, List.length_range], c2, fun i hid => ?_, c4⟩
    rw [c3, List.getD_eq_getElem?_getD, List.getElem?_map, List.getElem?_range hid]; rfl
  obtain ⟨L, hL⟩ := Classical.axiomOfChoice lo
  let C : Nat → List Int := fun j => if j < k then L j else H j
  have hC : ∀ j, j < d → (C j).length = d ∧ ∀ z ∈ C j, 0 ≤ z ∧ z < (p : Int) := fun j _ => by
    show (if j < k then L j else H j).length = d ∧ ∀ z ∈ (if j < k then L j else H j), _
    split
    · exact ⟨by have := (hL j).1; omega, (hL j).2.1⟩
    · exact ⟨by have := (hH j).1; omega, (hH j).2.1⟩
  have hK : ∀ j, j < d → ColOk p k d qs C j := fun j hj => by
    refine ⟨fun q hq => ?_, fun hkj r h1 h2 => ?_, fun hjk r h1 h2 => ?_⟩
    · show hor p q.1 (if j < k then L j else H j) = _
      split
      · exact (hL j).2.2.2 q hq
      · exact (hH j).2.2.2 q hq
    · show (if j < k then L j else H j).getD r 0 = 0
      rw [if_neg (by omega)]
      have := (hH j).2.2.1 (r - k)
      rwa [show k + (r - k) = r by omega] at this
    · show (if j < k then L j else H j).getD r 0 = (if r < k then L r else H r).getD j 0
      rw [if_pos hjk, if_neg (by omega)]
      have := (hL j).2.2.1 (r - k) (by omega)
      rwa [show k + (r - k) = r by omega] at this
  have ok := tabOk_iff.mp ((alike_iff hP hk h hl hC hK).mpr al)
  refine ⟨fun r c => (if c < d then C c else []).getD r 0, ⟨fun r c => ?_, fun r c hr hc => ?_, fun r c h1 h2 h3 h4 => ?_⟩, fun q hq => ?_⟩
  · by_cases hc : c < d
    · rw [if_pos hc]; exact getD_bd p0 (hC c hc).2 r
    · rw [if_neg hc]; exact ⟨Int.le_refl 0, p0⟩
  · rw [if_pos hc, if_pos hr]
    have := ok.1 c r hc hr
    unfold clT at this
    rwa [if_pos hc, if_pos hr] at this
  · rw [if_pos h4]
    have := ok.2 c r h3 h4 h1 h2
    unfold clT at this
    rwa [if_pos h4] at this
  · have := cols_kept hC hK hq (h.rl q hq)
    rw [← this]
    unfold keptL
    refine List.map_congr_left fun c hc => ?_
    have hc := List.mem_range.mp hc
    congr 1
    refine List.map_congr_left fun r hr => ?_
    dsimp only
    rw [if_pos hc]
/-- what k houses keep of tables alike where both places are k and more tells the rest -/
theorem table_one {p : Nat} (hP : PrP p) {k d : Nat} (hk : k ≤ d) {xs : List Int} (hl : xs.length = k) (un : xs.Pairwise fun x y => ¬ (p : Int) ∣ x - y) {T U : Nat → Nat → Int} (hT : ∀ r c, 0 ≤ T r c ∧ T r c < p) (hU : ∀ r c, 0 ≤ U r c ∧ U r c < p) (sT : ∀ r c, T r c = T c r) (sU : ∀ r c, U r c = U c r) (low : ∀ r c, k ≤ r → r < d → k ≤ c → c < d → T r c = U r c) (h : ∀ x ∈ xs, keptL p d T x = keptL p d U x) {r c : Nat} (hr : r < d) (hc : c < d) : T r c = U r c := by
  have col : ∀ c, c < d → (∀ r, k ≤ r → r < d → T r c = U r c) → ∀ r, r < d → T r c = U r c := fun c hc ht => by
    have : colL d T c = colL d U c := by
      refine tail_one hP (k := k) (xs := xs) (by rw [List.length_map, List.length_map]) (by rw [List.length_map, List.length_range]; exact hk) hl ?_ ?_ un (drop_map fun r h1 h2 => ht r h1 h2) fun x hx => map_at2 (h x hx) hc
      · intro z hz; obtain ⟨r, _, rfl⟩ := List.mem_map.mp hz; exact hT r c
      · intro z hz; obtain ⟨r, _, rfl⟩ := List.mem_map.mp hz; exact hU r c
    exact fun r hr => map_at2 this hr
  by_cases hck : k ≤ c
  · exact col c hc (fun r h1 h2 => low r c h1 h2 hck hc) r hr
  · refine col c hc (fun r h1 h2 => ?_) r hr
    rw [sT, sU]
    exact col r h2 (fun a a1 a2 => low a r a1 a2 h1 h2) c hc
end Sm

namespace Sm
/-! ### numbers at places -/
def plr (d r : Nat) : List (Nat × Nat) := (List.range (d - r)).map fun j => (r, r + j)
def plc (k d : Nat) : List (Nat × Nat) := (List.range k).flatMap fun r => (List.range (d - r)).map fun j => (r, r + j)
theorem mem_plc {k d : Nat} {q : Nat × Nat} : q ∈ plc k d ↔ q.1 < k ∧ q.1 ≤ q.2 ∧ q.2 < d := by
  unfold plc
  rw [List.mem_flatMap]
  constructor
  · rintro ⟨r, hr, h⟩
    obtain ⟨j, hj, rfl⟩ := List.mem_map.mp h
    have := List.mem_range.mp hr
    have := List.mem_range.mp hj
    exact ⟨by dsimp only; omega, by dsimp only; omega, by dsimp only; omega⟩
  · rintro ⟨h1, h2, h3⟩
    exact ⟨q.1, List.mem_range.mpr h1, List.mem_map.mpr ⟨q.2 - q.1, List.mem_range.mpr (by omega), by rw [show q.1 + (q.2 - q.1) = q.2 by omega]⟩⟩
theorem plc_add (l d : Nat) : ∀ m, plc (l + m) d = plc l d ++ (List.range m).flatMap fun i => (List.range (d - (l + i))).map fun j => (l + i, l + i + j)
  | 0 => by simp
  | m + 1 => by
    have ih := plc_add l d m
    unfold plc at ih ⊢
    rw [← Nat.add_assoc, List.range_succ, List.flatMap_append, ih, List.range_succ, List.flatMap_append, List.append_assoc]
    simp
theorem plc_nodup (d : Nat) : ∀ k, (plc k d).Nodup
  | 0 => by simp [plc]
  | k + 1 => by
    have e : plc (k + 1) d = plc k d ++ plr d k := by
      unfold plc plr
      rw [List.range_succ, List.flatMap_append]; simp
    rw [e, List.nodup_append]
    refine ⟨plc_nodup d k, ?_, fun a ha b hb e => ?_⟩
    · unfold plr
      rw [List.nodup_iff_pairwise_ne, List.pairwise_map]
      refine List.Pairwise.imp ?_ (List.nodup_iff_pairwise_ne.mp List.nodup_range)
      intro a b hab e
      injection e with _ e2
      omega
    · subst e
      have h1 := (mem_plc.mp ha).1
      obtain ⟨j, _, rfl⟩ := List.mem_map.mp hb
      dsimp only at h1
      omega
def plm (l k d : Nat) : List (Nat × Nat) := (List.range (k - l)).flatMap fun i => (List.range (d - (l + i))).map fun j => (l + i, l + i + j)
theorem plc_split {l k : Nat} (d : Nat) (h : l ≤ k) : plc k d = plc l d ++ plm l k d := by
  have := plc_add l d (k - l)
  rw [show l + (k - l) = k by omega] at this
  exact this
def lk : List (Nat × Nat) → List Int → Nat × Nat → Int
  | q :: ps, a :: v, t => if q = t then a else lk ps v t
  | _, _, _ => 0
theorem lk_no : ∀ {ps : List (Nat × Nat)} {v : List Int} {t : Nat × Nat}, t ∉ ps → lk ps v t = 0
  | [], _, _, _ => by unfold lk; rfl
  | _ :: _, [], _, _ => by unfold lk; rfl
  | q :: ps, a :: v, t, h => by
    rw [List.mem_cons, not_or] at h
    rw [lk, if_neg (fun e => h.1 e.symm), lk_no h.2]
theorem lk_left : ∀ {ps ps' : List (Nat × Nat)} {v v' : List Int} {t : Nat × Nat}, v.length = ps.length → t ∈ ps → lk (ps ++ ps') (v ++ v') t = lk ps v t
  | q :: ps, ps', a :: v, v', t, hl, h => by
    rw [List.cons_append, List.cons_append, lk, lk]
    split
    · rfl
    · rename_i hne
      rcases List.mem_cons.mp h with e | e
      · exact absurd e.symm hne
      · exact lk_left (by simpa using hl) e
  | _ :: _, _, [], _, _, hl, _ => by simp at hl
theorem lk_right : ∀ {ps ps' : List (Nat × Nat)} {v v' : List Int} {t : Nat × Nat}, v.length = ps.length → t ∉ ps → lk (ps ++ ps') (v ++ v') t = lk ps' v' t
  | [], _, [], _, _, _, _ => rfl
  | [], _, _ :: _, _, _, hl, _ => by simp at hl
  | _ :: _, _, [], _, _, hl, _ => by simp at hl
  | q :: ps, ps', a :: v, v', t, hl, h => by
    rw [List.mem_cons, not_or] at h
    rw [List.cons_append, List.cons_append, lk, if_neg (fun e => h.1 e.symm)]
    exact lk_right (by simpa using hl) h.2
theorem lk_map (f : Nat × Nat → Int) : ∀ {ps : List (Nat × Nat)} {t : Nat × Nat}, t ∈ ps → lk ps (ps.map f) t = f t
  | q :: ps, t, h => by
    rw [List.map_cons, lk]
    split
    · rename_i e; rw [e]
    · rename_i hne
      rcases List.mem_cons.mp h with e | e
      · exact absurd e.symm hne
      · exact lk_map f e
theorem lk_b {p : Int} (hp : 0 < p) : ∀ {ps : List (Nat × Nat)} {v : List Int} {t : Nat × Nat}, (∀ z ∈ v, 0 ≤ z ∧ z < p) → 0 ≤ lk ps v t ∧ lk ps v t < p
  | [], _, _, _ => by unfold lk; exact ⟨Int.le_refl 0, hp⟩
  | _ :: _, [], _, _ => by unfold lk; exact ⟨Int.le_refl 0, hp⟩
  | q :: ps, a :: v, t, h => by
    rw [lk]
    split
    · exact h a List.mem_cons_self
    · exact lk_b hp fun z hz => h z (List.mem_cons_of_mem _ hz)
theorem lk_at : ∀ {ps : List (Nat × Nat)} {v : List Int} {i : Nat} {t : Nat × Nat}, ps.Nodup → v.length = ps.length → ps[i]? = some t → lk ps v t = v.getD i 0
  | q :: ps, a :: v, 0, t, _, _, h => by
    simp at h; subst h; rw [lk, if_pos rfl]; rfl
  | q :: ps, a :: v, i + 1, t, hd, hl, h => by
    obtain ⟨h1, h2⟩ := List.nodup_cons.mp hd
    have hm : t ∈ ps := List.mem_of_getElem? (by simpa using h)
    rw [lk, if_neg (fun e => h1 (by rw [e]; exact hm)), lk_at h2 (by simpa using hl) (by simpa using h)]; rfl
  | q :: ps, [], i, t, _, hl, _ => by simp at hl
  | [], v, i, t, _, _, h => by simp at h
def tabN (ps : List (Nat × Nat)) (v : List Int) (r c : Nat) : Int := lk ps v (min r c, max r c)
theorem tabN_sym (ps : List (Nat × Nat)) (v : List Int) (r c : Nat) : tabN ps v r c = tabN ps v c r := by
  unfold tabN; rw [Nat.min_comm, Nat.max_comm]
theorem tabN_b {p : Int} (hp : 0 < p) {ps : List (Nat × Nat)} {v : List Int} (h : ∀ z ∈ v, 0 ≤ z ∧ z < p) (r c : Nat) : 0 ≤ tabN ps v r c ∧ tabN ps v r c < p := lk_b hp h
/-! ### what is kept, as a sum over the places -/
def tk (p x : Int) (c : Nat) (q : Nat × Nat) : Int := if c = q.2 then pw p x q.1 else if c = q.1 then pw p x q.2 else 0
def dotL : List Int → List Int → Int
  | a :: as, b :: bs => a * b + dotL as bs
  | _, _ => 0
theorem dotL_app : ∀ {a b c d : List Int}, a.length = c.length → dotL (a ++ b) (c ++ d) = dotL a c + dotL b d
  | [], b, [], d, _ => by simp [dotL]
  | x :: a, b, y :: c, d, h => by
    rw [List.cons_append, List.cons_append, dotL, dotL, dotL_app (by simpa using h), Int.add_assoc]
  | [], _, _ :: _, _, h => by simp at h
  | _ :: _, _, [], _, h => by simp at h
theorem sm_at {f : Nat → Int} {j : Nat} : ∀ {d : Nat}, j < d → (∀ i, i < d → i ≠ j → f i = 0) → sm d f = f j
  | d + 1, hj, h => by
    rw [sm]
    by_cases e : j = d
    · subst e
      rw [sm_congr (g := fun _ => 0) fun i hi => h i (by omega) (by omega), sm_zero]; omega
    · rw [sm_at (by omega) fun i hi hne => h i (by omega) hne, h d (by omega) (by omega)]; omega
theorem dot_keep {p x : Int} {d c : Nat} (hc : c < d) : ∀ {ps : List (Nat × Nat)} {v : List Int}, ps.Nodup → (∀ q ∈ ps, q.1 ≤ q.2 ∧ q.2 < d) → v.length = ps.length → sm d (fun r => pw p x r * tabN ps v r c) = dotL (ps.map (tk p x c)) v
  | [], v, _, _, hl => by
    have : v = [] := List.eq_nil_of_length_eq_zero hl
    subst this
    rw [sm_congr (g := fun _ => 0) fun i _ => by unfold tabN lk; exact Int.mul_zero _, sm_zero]; rfl
  | _ :: _, [], _, _, hl => by simp at hl
  | q :: ps, a :: v, hd, hn, hl => by
    obtain ⟨h1, h2⟩ := List.nodup_cons.mp hd
    have ih := dot_keep (p := p) (x := x) hc h2 (fun t ht => hn t (List.mem_cons_of_mem _ ht)) (v := v) (by simpa using hl)
    have nq := hn q List.mem_cons_self
    have e : ∀ r, r < d → pw p x r * tabN (q :: ps) (a :: v) r c = (if q = (min r c, max r c) then pw p x r * a else 0) + pw p x r * tabN ps v r c := fun r _ => by
      unfold tabN
      rw [lk]
      split
      · rename_i e
        rw [← e, lk_no h1]; omega
      · omega
    rw [sm_congr e, sm_add (fun r => if q = (min r c, max r c) then pw p x r * a else 0) (fun r => pw p x r * tabN ps v r c), ih, List.map_cons, dotL]
    congr 1
    obtain ⟨u, w⟩ := q
    dsimp only at nq
    unfold tk
    dsimp only
    by_cases c1 : c = w
    · rw [if_pos c1, sm_at (j := u) (by omega) fun i hi hne => if_neg fun e => by
        injection e with e1 e2
        omega]
      rw [if_pos (by rw [Prod.mk.injEq]; omega)]
    · rw [if_neg c1]
      by_cases c2 : c = u
      · rw [if_pos c2, sm_at (j := w) (by omega) fun i hi hne => if_neg fun e => by
          injection e with e1 e2
          omega]
        rw [if_pos (by rw [Prod.mk.injEq]; omega)]
      · rw [if_neg c2, Int.zero_mul, sm_congr (g := fun _ => 0) fun i hi => if_neg fun e => by
          injection e with e1 e2
          omega, sm_zero]
theorem plc_norm {k d : Nat} : ∀ q ∈ plc k d, q.1 ≤ q.2 ∧ q.2 < d := fun _ h => (mem_plc.mp h).2
/-- what house x keeps at column c -/
theorem keep_dot {p x : Int} {k d c : Nat} (hc : c < d) {v : List Int} (hl : v.length = (plc k d).length) : hor p x (colL d (tabN (plc k d) v) c) = dotL ((plc k d).map (tk p x c)) v % p := by
  rw [← keep_at, dot_keep hc (plc_nodup d k) plc_norm hl]
abbrev plT (p a : Int) (T A : Nat → Nat → Int) (r c : Nat) : Int := (T r c + a * A r c) % p
theorem plus_range (p a : Int) (d : Nat) (f g : Nat → Int) : plusL p a ((List.range d).map f) ((List.range d).map g) = (List.range d).map fun c => (f c + a * g c) % p := by
  unfold plusL
  rw [List.zip_map', List.map_map]; rfl
theorem kept_plus (p a x : Int) (d : Nat) (T A : Nat → Nat → Int) : keptL p d (plT p a T A) x = (List.range d).map fun c => (hor p x (colL d T c) + a * hor p x (colL d A c)) % p := by
  unfold keptL
  refine List.map_congr_left fun c _ => ?_
  rw [show colL d (plT p a T A) c = plusL p a (colL d T c) (colL d A c) from (plus_range p a d (fun r => T r c) (fun r => A r c)).symm, hor_plus (by rw [List.length_map, List.length_map])]
theorem kept_plusL (p a x : Int) (d : Nat) (T A : Nat → Nat → Int) : keptL p d (plT p a T A) x = plusL p a (keptL p d T x) (keptL p d A x) := by
  rw [kept_plus, plus_range]
theorem kept_congr {p x : Int} {d : Nat} {T U : Nat → Nat → Int} (h : ∀ r c, r < d → c < d → T r c = U r c) : keptL p d T x = keptL p d U x := by
  unfold keptL
  refine List.map_congr_left fun c hc => ?_
  have hc := List.mem_range.mp hc
  congr 1
  exact List.map_congr_left fun r hr => h r c (List.mem_range.mp hr) hc
section
variable {p l k d : Nat}
/-- for any secrets there are dice with which l houses keep what they may -/
theorem dice_ex (hP : PrP p) (hlk : l ≤ k) (hkd : k ≤ d) {qs : List (Int × List Int)} (h : Prs p d qs) (hl : qs.length = l) (al : Alike p qs) {s : List Int} (hs : s.length = (plm l k d).length) (sb : ∀ z ∈ s, 0 ≤ z ∧ z < (p : Int)) :
    ∃ y : List Int, y.length = (plc l d).length ∧ (∀ z ∈ y, 0 ≤ z ∧ z < (p : Int)) ∧ ∀ q ∈ qs, keptL p d (tabN (plc k d) (y ++ s)) q.1 = q.2 := by
  have hp1 := hP.1
  have p0 : (0 : Int) < p := by omega
  let S : Nat → Nat → Int := tabN (plc k d) (List.replicate (plc l d).length 0 ++ s)
  have Sb : ∀ r c, 0 ≤ S r c ∧ S r c < p := tabN_b p0 fun z hz => by
    rcases List.mem_append.mp hz with e | e
    · rw [List.eq_of_mem_replicate e]; omega
    · exact sb z e
  have Ss : ∀ r c, S r c = S c r := tabN_sym _ _
  have len : ∀ q ∈ qs, q.2.length = (keptL (p : Int) d S q.1).length := fun q hq => by rw [kept_len, h.rl q hq]
  have h' : Prs p d (qs.map fun q => (q.1, plusL p (-1) q.2 (keptL p d S q.1))) := by
    refine ⟨by rw [List.length_map]; exact h.ln, fun q hq => ?_, fun q hq => ?_, fun q hq => ?_, by rw [List.pairwise_map]; exact h.un⟩
    · obtain ⟨r, hr, rfl⟩ := List.mem_map.mp hq; exact h.bx r hr
    · obtain ⟨r, hr, rfl⟩ := List.mem_map.mp hq
      show (plusL _ _ _ _).length = d
      rw [plus_len (len r hr), h.rl r hr]
    · obtain ⟨r, hr, rfl⟩ := List.mem_map.mp hq
      exact plus_in p0
  have al' : Alike p (qs.map fun q => (q.1, plusL p (-1) q.2 (keptL p d S q.1))) := by
    intro q hq r hr
    obtain ⟨a, ha, rfl⟩ := List.mem_map.mp hq
    obtain ⟨b, hb, rfl⟩ := List.mem_map.mp hr
    dsimp only
    rw [hor_plus (len a ha), hor_plus (len b hb), al a ha b hb, across Ss a.1 b.1]
  obtain ⟨U, tU, kU⟩ := table_ex hP (k := l) (d := d) (by omega) h' (by rw [List.length_map, hl]) al'
  refine ⟨(plc l d).map fun q => plT p 1 U S q.1 q.2, by rw [List.length_map], fun z hz => ?_, fun q hq => ?_⟩
  · obtain ⟨t, _, rfl⟩ := List.mem_map.mp hz
    exact ⟨Int.emod_nonneg _ (by omega), Int.emod_lt_of_pos _ p0⟩
  · have key : ∀ r c, r < d → c < d → tabN (plc k d) (((plc l d).map fun q => plT p 1 U S q.1 q.2) ++ s) r c = plT p 1 U S r c := fun r c hr hc => by
      have sy : plT p 1 U S (min r c) (max r c) = plT p 1 U S r c := by
        rcases Nat.le_total r c with e | e
        · rw [Nat.min_eq_left e, Nat.max_eq_right e]
        · rw [Nat.min_eq_right e, Nat.max_eq_left e]
          unfold plT
          rw [tU.sym c r hc hr, Ss c r]
      unfold tabN
      rw [plc_split d hlk]
      by_cases m : (min r c, max r c) ∈ plc l d
      · rw [lk_left (by rw [List.length_map]) m, lk_map (fun q => plT p 1 U S q.1 q.2) m]
        exact sy
      · rw [lk_right (by rw [List.length_map]) m, ← sy]
        have hge : l ≤ min r c := by
          rcases Nat.lt_or_ge (min r c) l with z | z
          · exact absurd (mem_plc.mpr ⟨z, by dsimp only; omega, by dsimp only; omega⟩) m
          · exact z
        have eS : S (min r c) (max r c) = lk (plm l k d) s (min r c, max r c) := by
          show lk (plc k d) _ (min (min r c) (max r c), max (min r c) (max r c)) = _
          rw [show min (min r c) (max r c) = min r c by omega, show max (min r c) (max r c) = max r c by omega, plc_split d hlk, lk_right (by rw [List.length_replicate]) m]
        rw [← eS]
        show _ = (U _ _ + 1 * S _ _) % (p : Int)
        rw [tU.low _ _ hge (by omega) (by omega) (by omega), Int.zero_add, Int.one_mul, Int.emod_eq_of_lt (Sb _ _).1 (Sb _ _).2]
    rw [kept_congr key, kept_plusL, kU _ (List.mem_map_of_mem hq)]
    dsimp only
    refine rows_eq (p := p) _ _ ?_ (plus_in p0) (h.rb q hq) ?_
    · rw [plus_len (by rw [plus_len (len q hq), len q hq]), plus_len (len q hq)]
    · intro c hc
      have hl2 := len q hq
      generalize keptL (p : Int) d S q.1 = K at hc hl2
      generalize q.2 = Q at hc hl2
      clear hq key al' h' h kU
      induction Q generalizing K with
      | nil => simp at hc
      | cons a Q ih =>
        cases K with
        | nil => simp at hl2
        | cons b K =>
          have e : ((plusL (p : Int) 1 (plusL p (-1) (a :: Q) (b :: K)) (b :: K)).zip (a :: Q)).map (fun q => q.1 - q.2) = (((a + -1 * b) % p + 1 * b) % p - a) :: ((plusL (p : Int) 1 (plusL p (-1) Q K) K).zip Q).map (fun q => q.1 - q.2) := rfl
          rw [e] at hc
          rcases List.mem_cons.mp hc with z | z
          · rw [z]
            obtain ⟨i, hi⟩ := dvd_emod (p : Int) (a + -1 * b)
            obtain ⟨j, hj⟩ := dvd_emod (p : Int) ((a + -1 * b) % p + 1 * b)
            exact ⟨i + j, by grind⟩
          · exact ih K z (by simpa using hl2)
/-- and no others -/
theorem dice_one (hP : PrP p) (hlk : l ≤ k) (hkd : k ≤ d) {xs : List Int} (hl : xs.length = l) (un : xs.Pairwise fun x y => ¬ (p : Int) ∣ x - y) {s y y' : List Int} (hs : s.length = (plm l k d).length) (sb : ∀ z ∈ s, 0 ≤ z ∧ z < (p : Int)) (yl : y.length = (plc l d).length) (yb : ∀ z ∈ y, 0 ≤ z ∧ z < (p : Int)) (yl' : y'.length = (plc l d).length) (yb' : ∀ z ∈ y', 0 ≤ z ∧ z < (p : Int))
    (h : ∀ x ∈ xs, keptL p d (tabN (plc k d) (y ++ s)) x = keptL p d (tabN (plc k d) (y' ++ s)) x) : y = y' := by
  have hp1 := hP.1
  have p0 : (0 : Int) < p := by omega
  have b : ∀ {y : List Int}, (∀ z ∈ y, 0 ≤ z ∧ z < (p : Int)) → ∀ z ∈ y ++ s, 0 ≤ z ∧ z < (p : Int) := fun yb z hz => by
    rcases List.mem_append.mp hz with e | e
    · exact yb z e
    · exact sb z e
  have low : ∀ r c, l ≤ r → r < d → l ≤ c → c < d → tabN (plc k d) (y ++ s) r c = tabN (plc k d) (y' ++ s) r c := fun r c h1 h2 h3 h4 => by
    have m : (min r c, max r c) ∉ plc l d := fun z => by
      have := (mem_plc.mp z).1
      dsimp only at this
      omega
    unfold tabN
    rw [plc_split d hlk, lk_right yl m, lk_right yl' m]
  have all := fun r c hr hc => table_one hP (k := l) (d := d) (by omega) hl un (tabN_b p0 (b yb)) (tabN_b p0 (b yb')) (tabN_sym _ _) (tabN_sym _ _) low h (r := r) (c := c) hr hc
  refine List.ext_getElem (by rw [yl, yl']) fun i h1 h2 => ?_
  have hi : i < (plc l d).length := by omega
  have hm : (plc l d)[i]? = some (plc l d)[i] := List.getElem?_eq_getElem hi
  have hn := mem_plc.mp (List.getElem_mem hi)
  have e := all (plc l d)[i].1 (plc l d)[i].2 (by omega) (by omega)
  unfold tabN at e
  rw [Nat.min_eq_left hn.2.1, Nat.max_eq_right hn.2.1, plc_split d hlk, lk_left yl (List.getElem_mem hi), lk_left yl' (List.getElem_mem hi), lk_at (plc_nodup d l) yl hm, lk_at (plc_nodup d l) yl' hm] at e
  rw [List.getD_eq_getElem?_getD, List.getD_eq_getElem?_getD, List.getElem?_eq_getElem h1, List.getElem?_eq_getElem h2] at e
  exact e
end
end Sm

namespace Sm
/-! ### equations -/
theorem fn_snoc (a : List Int) (x : Int) (i : Nat) : RR.fn (a ++ [x]) i = if i = a.length then x else RR.fn a i := by
  show (a ++ [x]).getD i 0 = if i = a.length then x else a.getD i 0
  rw [List.getD_eq_getElem?_getD, List.getD_eq_getElem?_getD]
  split
  · rename_i h; subst h; simp
  · rename_i h
    rcases Nat.lt_or_ge i a.length with q | q
    · rw [List.getElem?_append_left q]
    · rw [List.getElem?_eq_none (by rw [List.length_append, List.length_singleton]; omega), List.getElem?_eq_none q]
theorem dot_dotL : ∀ (m : Nat) (a b : List Int), a.length = m → b.length = m → RR.dot m (RR.fn a) (RR.fn b) = dotL a b
  | 0, a, b, ha, hb => by
    rw [List.eq_nil_of_length_eq_zero ha, List.eq_nil_of_length_eq_zero hb]; rfl
  | m + 1, a, b, ha, hb => by
    obtain ⟨a', x, rfl⟩ : ∃ S r, a = S ++ [r] := ⟨a.dropLast, a.getLast (by intro z; subst z; simp at ha), (List.dropLast_concat_getLast _).symm⟩
    obtain ⟨b', y, rfl⟩ : ∃ S r, b = S ++ [r] := ⟨b.dropLast, b.getLast (by intro z; subst z; simp at hb), (List.dropLast_concat_getLast _).symm⟩
    have la : a'.length = m := by simpa using ha
    have lb : b'.length = m := by simpa using hb
    rw [dotL_app (by omega), ← dot_dotL m a' b' la lb]
    show RR.dot m _ _ + RR.fn (a' ++ [x]) m * RR.fn (b' ++ [y]) m = _
    rw [fn_snoc, fn_snoc, if_pos la.symm, if_pos lb.symm, RR.dot_congr (w := RR.fn a') (y := RR.fn b') m fun i hi => by rw [fn_snoc, fn_snoc, if_neg (by omega), if_neg (by omega)]]
    simp [dotL]
theorem lc_eq {E : List (List Int × Int)} {nd : Nat} {y : List Int} (hy : y.length = nd) (hE : ∀ e ∈ E, nd ≤ e.1.length) {j : Nat} {e : List Int × Int} (hj : E[j]? = some e) : RR.lc (((List.range nd).map fun at_ => E.map fun e => e.1.getD at_ 0).map RR.fn) (RR.fn y) j = dotL (e.1.take nd) y := by
  have hm := hE e (List.mem_of_getElem? hj)
  rw [RR.lc_dot j (RR.fn y) nd _ (by rw [List.length_map, List.length_range]), ← dot_dotL nd _ _ (by rw [List.length_take]; omega) hy]
  refine RR.dot_congr nd fun i hi => ?_
  congr 1
  show ((((List.range nd).map fun at_ => E.map fun e => e.1.getD at_ 0).getD i []).getD j 0) = (e.1.take nd).getD i 0
  rw [List.getD_eq_getElem?_getD, List.getD_eq_getElem?_getD, List.getElem?_map, List.getElem?_range hi]
  show ((E.map fun e => e.1.getD i 0)[j]?).getD 0 = _
  rw [List.getElem?_map, hj, List.getD_eq_getElem?_getD (l := e.1.take nd), List.getElem?_take_of_lt hi]
  show e.1.getD i 0 = _
  rw [List.getD_eq_getElem?_getD]
/-- the dice answer the equations -/
theorem sol_iff {p : Nat} {E : List (List Int × Int)} {nd : Nat} {y s : List Int} (hy : y.length = nd) (hE : ∀ e ∈ E, e.1.length = nd + s.length) :
    (∀ j, j < E.length → (p : Int) ∣ RR.lc (((List.range nd).map fun at_ => E.map fun e => e.1.getD at_ 0).map RR.fn) (RR.fn y) j - RR.fn (E.map fun e => (e.2 - dotL (e.1.drop nd) s % p) % p) j) ↔ ∀ e ∈ E, (p : Int) ∣ dotL e.1 (y ++ s) - e.2 := by
  have split : ∀ e ∈ E, dotL e.1 (y ++ s) = dotL (e.1.take nd) y + dotL (e.1.drop nd) s := fun e he => by
    rw [← dotL_app (by rw [List.length_take, hE e he]; omega), List.take_append_drop]
  have at_ : ∀ (j : Nat) (e : List Int × Int), E[j]? = some e → RR.fn (E.map fun e => (e.2 - dotL (e.1.drop nd) s % p) % (p : Int)) j = (e.2 - dotL (e.1.drop nd) s % p) % p := fun j e hj => by
    show (E.map _).getD j 0 = _
    rw [List.getD_eq_getElem?_getD, List.getElem?_map, hj]; rfl
  constructor
  · intro h e he
    obtain ⟨j, hj⟩ := List.mem_iff_getElem?.mp he
    have hl := (List.getElem?_eq_some_iff.mp hj).1
    have := h j hl
    rw [lc_eq hy (fun e he => by have := hE e he; omega) hj, at_ j e hj] at this
    rw [split e he]
    obtain ⟨a, ha⟩ := this
    obtain ⟨b, hb⟩ := dvd_emod (p : Int) (e.2 - dotL (e.1.drop nd) s % p)
    obtain ⟨c, hc⟩ := dvd_emod (p : Int) (dotL (e.1.drop nd) s)
    exact ⟨a + b - c, by grind⟩
  · intro h j hj
    have hm : E[j]? = some E[j] := List.getElem?_eq_getElem hj
    rw [lc_eq hy (fun e he => by have := hE e he; omega) hm, at_ j _ hm]
    have := h _ (List.getElem_mem hj)
    rw [split _ (List.getElem_mem hj)] at this
    obtain ⟨a, ha⟩ := this
    obtain ⟨b, hb⟩ := dvd_emod (p : Int) (E[j].2 - dotL (E[j].1.drop nd) s % p)
    obtain ⟨c, hc⟩ := dvd_emod (p : Int) (dotL (E[j].1.drop nd) s)
    exact ⟨a - b + c, by grind⟩
/-- the equations of what houses keep -/
def keqs (p : Int) (k d : Nat) (qs : List (Int × List Int)) : List (List Int × Int) := qs.flatMap fun q => (List.range d).map fun c => ((plc k d).map (tk p q.1 c), q.2.getD c 0)
theorem keqs_iff {p : Nat} {k d : Nat} {qs : List (Int × List Int)} (h : ∀ q ∈ qs, q.2.length = d ∧ ∀ z ∈ q.2, 0 ≤ z ∧ z < (p : Int)) (hp : 0 < p) {v : List Int} (hv : v.length = (plc k d).length) : (∀ e ∈ keqs p k d qs, (p : Int) ∣ dotL e.1 v - e.2) ↔ ∀ q ∈ qs, keptL p d (tabN (plc k d) v) q.1 = q.2 := by
  constructor
  · intro hE q hq
    obtain ⟨ql, qb⟩ := h q hq
    rw [← getD_map ql]
    unfold keptL
    refine List.map_congr_left fun c hc => ?_
    have hc := List.mem_range.mp hc
    have := hE _ (List.mem_flatMap.mpr ⟨q, hq, List.mem_map.mpr ⟨c, List.mem_range.mpr hc, rfl⟩⟩)
    have b := getD_bd (p := (p : Int)) (zs := q.2) (by omega) qb c
    rw [keep_dot hc hv, emod_congr this, Int.emod_eq_of_lt b.1 b.2]
  · intro hK e he
    obtain ⟨q, hq, he⟩ := List.mem_flatMap.mp he
    obtain ⟨c, hc, rfl⟩ := List.mem_map.mp he
    have hc := List.mem_range.mp hc
    have := map_at2 (f := fun c => hor p q.1 (colL d (tabN (plc k d) v) c)) (g := fun c => q.2.getD c 0) (by rw [getD_map (h q hq).1]; exact hK q hq) hc
    dsimp only at this ⊢
    rw [keep_dot hc hv] at this
    rw [← this]
    obtain ⟨a, ha⟩ := dvd_emod (p : Int) (dotL ((plc k d).map (tk p q.1 c)) v)
    exact ⟨-a, by grind⟩
/-! ### sizes -/
section
variable {p n : Nat}
theorem least_nz {f : Nat → Int} : ∀ n : Nat, (∀ j, j < n → f j = 0) ∨ ∃ c, c < n ∧ f c ≠ 0 ∧ ∀ j, j < c → f j = 0
  | 0 => .inl fun j hj => absurd hj (Nat.not_lt_zero j)
  | n + 1 => by
    rcases least_nz (f := f) n with h | ⟨c, h1, h2, h3⟩
    · by_cases e : f n = 0
      · refine .inl fun j hj => ?_
        rcases Nat.lt_or_ge j n with q | q
        · exact h j q
        · rw [show j = n by omega]; exact e
      · exact .inr ⟨n, by omega, e, h⟩
    · exact .inr ⟨c, by omega, h2, h3⟩
theorem pf_add (hP : PrP p) {G : List (Nat × List Int)} (h : RR.PF p n G) {D : List (List Int)} (sp : ∀ v, RR.Sp p (RR.rws G) v ↔ RR.Sp p D v) {r : List Int} (hr : RR.Bd p n r) (ni : ¬ RR.Sp p D (RR.fn r)) :
    ∃ G', RR.PF p n G' ∧ (∀ v, RR.Sp p (RR.rws G') v ↔ RR.Sp p (D ++ [r]) v) ∧ G'.length = G.length + 1 := by
  have p1 := hP.1
  have lb := (RR.lov_ok (by omega : 0 < p) h hr).1
  rcases least_nz (f := RR.fn (RR.lov p G r)) n with z | ⟨c, h1, h2, h3⟩
  · exact absurd ((sp _).mp ((RR.lov_zero (by omega) h hr).mp z)) ni
  · have b := lb.at (by omega : 0 < p) c
    have nd : ¬ (p : Int) ∣ RR.fn (RR.lov p G r) c := fun hd => by
      have := Int.le_of_dvd (by omega) hd
      omega
    obtain ⟨inv, _, _, hi⟩ := inv_ex hP nd
    exact ⟨RR.grw p n G c inv (RR.lov p G r), h.grow p1 lb (fun g hg => RR.lov_lead (by omega) h hr hg) h1 h3 h2 hi, grow_sp p1 h sp hr hi, by simp [RR.grw]⟩
theorem pf_ind (hP : PrP p) : ∀ (R D : List (List Int)) (G : List (Nat × List Int)), RR.PF p n G → (∀ v, RR.Sp p (RR.rws G) v ↔ RR.Sp p D v) → (∀ r ∈ R, RR.Bd p n r) → (∀ i r, R[i]? = some r → ¬ RR.Sp p (D ++ R.take i) (RR.fn r)) →
    ∃ G', RR.PF p n G' ∧ (∀ v, RR.Sp p (RR.rws G') v ↔ RR.Sp p (D ++ R) v) ∧ G'.length = G.length + R.length
  | [], D, G, h, sp, _, _ => ⟨G, h, by rw [List.append_nil]; exact sp, rfl⟩
  | r :: R, D, G, h, sp, hb, hi => by
    obtain ⟨G1, h1, s1, l1⟩ := pf_add hP h sp (hb r List.mem_cons_self) (by simpa using hi 0 r rfl)
    obtain ⟨G2, h2, s2, l2⟩ := pf_ind hP R (D ++ [r]) G1 h1 s1 (fun x hx => hb x (List.mem_cons_of_mem _ hx)) (fun i x hx => by
      have := hi (i + 1) x (by simpa using hx)
      rwa [List.take_succ_cons, List.append_cons] at this)
    exact ⟨G2, h2, by rw [List.append_cons]; exact s2, by rw [l2, l1, List.length_cons]; omega⟩
theorem pf_ex (hP : PrP p) : ∀ (R D : List (List Int)) (G : List (Nat × List Int)), RR.PF p n G → (∀ v, RR.Sp p (RR.rws G) v ↔ RR.Sp p D v) → (∀ r ∈ R, RR.Bd p n r) →
    ∃ G', RR.PF p n G' ∧ (∀ v, RR.Sp p (RR.rws G') v ↔ RR.Sp p (D ++ R) v) ∧ G.length ≤ G'.length ∧ G'.length ≤ G.length + R.length
  | [], D, G, h, sp, _ => ⟨G, h, by rw [List.append_nil]; exact sp, Nat.le_refl _, Nat.le_refl _⟩
  | r :: R, D, G, h, sp, hb => by
    by_cases hi : RR.Sp p D (RR.fn r)
    · obtain ⟨G2, h2, s2, l2, l3⟩ := pf_ex hP R (D ++ [r]) G h (fun v => by
        rw [sp v]
        exact (sp_apps (fun x hx => by rw [List.mem_singleton] at hx; rw [hx]; exact hi) v).symm) (fun x hx => hb x (List.mem_cons_of_mem _ hx))
      exact ⟨G2, h2, by rw [List.append_cons]; exact s2, l2, by rw [List.length_cons]; omega⟩
    · obtain ⟨G1, h1, s1, l1⟩ := pf_add hP h sp (hb r List.mem_cons_self) hi
      obtain ⟨G2, h2, s2, l2, l3⟩ := pf_ex hP R (D ++ [r]) G1 h1 s1 (fun x hx => hb x (List.mem_cons_of_mem _ hx))
      exact ⟨G2, h2, by rw [List.append_cons]; exact s2, by omega, by rw [List.length_cons]; omega⟩
/-! rows at some places -/
def pick (ix : List Nat) (r : List Int) : List Int := ix.map fun i => r.getD i 0
def pk (ix : List Nat) (v : RR.Rw) : RR.Rw := fun j => match ix[j]? with
  | some i => v i
  | none => 0
theorem fn_pick (ix : List Nat) (r : List Int) : RR.fn (pick ix r) = pk ix (RR.fn r) := funext fun j => by
  show (pick ix r).getD j 0 = _
  unfold pick pk
  rw [List.getD_eq_getElem?_getD, List.getElem?_map]
  cases ix[j]? <;> rfl
theorem pick_bd {ix : List Nat} {r : List Int} (hp : 0 < p) (h : RR.Bd p n r) : RR.Bd p ix.length (pick ix r) := ⟨by simp [pick], fun z hz => by
  obtain ⟨i, _, rfl⟩ := List.mem_map.mp hz
  exact h.at hp i⟩
theorem pk_cg {ix : List Nat} {v w : RR.Rw} (h : RR.Cg p v w) : RR.Cg p (pk ix v) (pk ix w) := fun j => by
  unfold pk
  cases ix[j]? with
  | none => exact ⟨0, by simp⟩
  | some i => exact h i
theorem pk_lin (ix : List Nat) (v w : RR.Rw) (k : Int) : pk ix (fun j => v j + k * w j) = fun j => pk ix v j + k * pk ix w j := funext fun j => by
  unfold pk
  cases ix[j]? with
  | none => simp
  | some i => rfl
theorem made_pk {ix : List Nat} {R : List RR.Rw} {v : RR.Rw} (m : RR.Made p R v) : RR.Made p (R.map (pk ix)) (pk ix v) := by
  induction m with
  | zero h => exact .zero ((pk_cg h).trans fun j => by unfold pk; cases ix[j]? <;> exact ⟨0, by simp⟩)
  | add k _ hr hw ih => exact .add k ih (List.mem_map_of_mem hr) (by rw [← pk_lin]; exact pk_cg hw)
theorem made_unpk {ix : List Nat} {R : List RR.Rw} {w : RR.Rw} (m : RR.Made p (R.map (pk ix)) w) : ∃ v, RR.Made p R v ∧ RR.Cg p w (pk ix v) := by
  induction m with
  | zero h => exact ⟨fun _ => 0, RR.Made.nil, h.trans fun j => by unfold pk; cases ix[j]? <;> exact ⟨0, by simp⟩⟩
  | @add v0 w0 r k _ hr hw ih =>
    obtain ⟨v, hv, hc⟩ := ih
    obtain ⟨s, hs, rfl⟩ := List.mem_map.mp hr
    refine ⟨fun j => v j + k * s j, hv.lin (RR.Made.of hs) k, ?_⟩
    rw [pk_lin]
    exact hw.trans (RR.Cg.lin hc (RR.Cg.refl _) k)
theorem sp_pick {ix : List Nat} {R : List (List Int)} {r : List Int} (h : RR.Sp p R (RR.fn r)) : RR.Sp p (R.map (pick ix)) (RR.fn (pick ix r)) := by
  have := made_pk (ix := ix) h
  rw [← fn_pick, List.map_map] at this
  unfold RR.Sp
  rw [List.map_map]
  refine this.mono fun x hx => ?_
  obtain ⟨s, hs, rfl⟩ := List.mem_map.mp hx
  exact List.mem_map.mpr ⟨s, hs, fn_pick ix s⟩
theorem sp_unpick {ix : List Nat} {R : List (List Int)} {w : RR.Rw} (h : RR.Sp p (R.map (pick ix)) w) : ∃ v, RR.Sp p R v ∧ RR.Cg p w (pk ix v) := by
  refine made_unpk (ix := ix) (R := R.map RR.fn) (h.mono fun x hx => ?_)
  rw [List.map_map] at hx
  obtain ⟨s, hs, rfl⟩ := List.mem_map.mp hx
  exact List.mem_map.mpr ⟨RR.fn s, List.mem_map_of_mem hs, (fn_pick ix s).symm⟩
/-- rows that are noughts where they are noughts at some places: as many are made there -/
theorem rank_same (hP : PrP p) {ix : List Nat} {R : List (List Int)} (hR : ∀ r ∈ R, RR.Bd p n r) {G G' : List (Nat × List Int)} (hG : RR.PF p n G) (sG : ∀ v, RR.Sp p (RR.rws G) v ↔ RR.Sp p R v) (hG' : RR.PF p ix.length G') (sG' : ∀ v, RR.Sp p (RR.rws G') v ↔ RR.Sp p (R.map (pick ix)) v)
    (inj : ∀ v, RR.Sp p R v → (∀ i ∈ ix, (p : Int) ∣ v i) → ∀ j, (p : Int) ∣ v j) : G.length = G'.length := by
  have p1 := hP.1
  obtain ⟨G2, h2, s2, l2⟩ := pf_ind hP (n := ix.length) ((RR.rws G).map (pick ix)) [] [] RR.PF.nil (fun v => Iff.rfl) (fun r hr => by
    obtain ⟨s, hs, rfl⟩ := List.mem_map.mp hr
    obtain ⟨g, hg, rfl⟩ := List.mem_map.mp hs
    exact pick_bd (by omega) (hG.bd g hg)) (fun i r hi hs => by
    rw [List.nil_append, ← List.map_take] at hs
    rw [List.getElem?_map] at hi
    obtain ⟨s, hs1, rfl⟩ := Option.map_eq_some_iff.mp hi
    rw [List.getElem?_map] at hs1
    obtain ⟨g, hg, rfl⟩ := Option.map_eq_some_iff.mp hs1
    have hgm : g ∈ G := List.mem_of_getElem? hg
    obtain ⟨v, hv, hc⟩ := sp_unpick hs
    have hvR : RR.Sp p R v := (sG v).mp (hv.mono fun x hx => by
      obtain ⟨s, hs, rfl⟩ := List.mem_map.mp hx
      exact List.mem_map_of_mem (List.mem_of_mem_take hs))
    have hu : RR.Sp p R fun j => RR.fn g.2 j + (-1) * v j := RR.Made.lin ((sG _).mp (RR.own_sp hgm)) hvR (-1)
    have := inj _ hu fun a ha => by
      obtain ⟨b, hb⟩ := List.mem_iff_getElem?.mp ha
      have := hc b
      rw [fn_pick] at this
      unfold pk at this
      rw [hb] at this
      obtain ⟨t, ht⟩ := this
      exact ⟨t, by grind⟩
    have at1 := this g.1
    rw [hG.one g hgm] at at1
    have v0 : (p : Int) ∣ v g.1 := RR.Made.phi (φ := fun v => v g.1) (fun _ _ _ => rfl) (fun v w h => h g.1) (fun r hr => by
      obtain ⟨l, hl, rfl⟩ := List.mem_map.mp hr
      rw [← List.map_take] at hl
      obtain ⟨x, hx, rfl⟩ := List.mem_map.mp hl
      have hxm : x ∈ G := List.mem_of_mem_take hx
      have ne : x.1 ≠ g.1 := fun e => by
        obtain ⟨t, ht⟩ := List.mem_iff_getElem?.mp hx
        have htl : t < i := by
          have := (List.getElem?_eq_some_iff.mp ht).1
          rw [List.length_take] at this; omega
        rw [List.getElem?_take_of_lt htl] at ht
        have n1 : (G.map Prod.fst)[t]? = some x.1 := by rw [List.getElem?_map, ht]; rfl
        have n2 : (G.map Prod.fst)[i]? = some x.1 := by rw [List.getElem?_map, hg, e]; rfl
        have := (List.getElem?_inj (by rw [List.length_map]; exact (List.getElem?_eq_some_iff.mp ht).1) hG.nd).mp (n1.trans n2.symm)
        omega
      show (p : Int) ∣ RR.fn x.2 g.1
      rw [hG.other x hxm g hgm ne]; exact ⟨0, by simp⟩) hv
    obtain ⟨a, ha⟩ := at1
    obtain ⟨b, hb⟩ := v0
    have h1 : (p : Int) ∣ 1 := ⟨a + b, by grind⟩
    have := Int.le_of_dvd (by decide) h1
    omega)
  rw [List.nil_append] at s2
  have e := RR.PF.length p1 hG' h2 (fun v => by
    rw [sG' v, s2 v]
    refine sp_iff (fun a ha => ?_) (fun a ha => ?_) v
    · obtain ⟨r, hr, rfl⟩ := List.mem_map.mp ha
      exact sp_pick ((sG _).mpr (sp_of hr))
    · obtain ⟨r, hr, rfl⟩ := List.mem_map.mp ha
      obtain ⟨g, hg, rfl⟩ := List.mem_map.mp hr
      exact sp_pick ((sG _).mp (RR.own_sp hg)))
  rw [e, l2, List.length_map, List.length_map]; simp
end
end Sm

namespace Sm
/-! ### what houses keep, as rows; what is learned -/
def krows (p : Int) (k d : Nat) (xs : List Int) : List (List Int) := xs.flatMap fun x => (List.range d).map fun c => (plc k d).map (tk p x c)
theorem tk_b {p x : Int} (hp : 1 < p) (c : Nat) (q : Nat × Nat) : 0 ≤ tk p x c q ∧ tk p x c q < p := by
  unfold tk
  split
  · exact pw_in hp _
  · split
    · exact pw_in hp _
    · omega
theorem krows_bd {p : Nat} (hp : 1 < p) {k d : Nat} {xs : List Int} : ∀ r ∈ krows p k d xs, RR.Bd p (plc k d).length r := fun r hr => by
  obtain ⟨x, _, hr⟩ := List.mem_flatMap.mp hr
  obtain ⟨c, _, rfl⟩ := List.mem_map.mp hr
  refine ⟨List.length_map _, fun z hz => ?_⟩
  obtain ⟨q, _, rfl⟩ := List.mem_map.mp hz
  exact tk_b (by omega) c q
theorem dot_comm (v w : RR.Rw) : ∀ m, RR.dot m v w = RR.dot m w v
  | 0 => rfl
  | m + 1 => by
    show RR.dot m v w + v m * w m = RR.dot m w v + w m * v m
    rw [dot_comm v w m, Int.mul_comm]
section
variable {p k d : Nat}
/-- numbers at which all that is kept comes to nought -/
def Nought (p : Nat) (k d : Nat) (xs : List Int) (v : List Int) : Prop := ∀ x ∈ xs, keptL p d (tabN (plc k d) v) x = List.replicate d 0
theorem nought_dot (hp : 0 < p) {xs : List Int} {v : List Int} (hv : v.length = (plc k d).length) (h : Nought p k d xs v) : ∀ r ∈ krows p k d xs, (p : Int) ∣ dotL r v := fun r hr => by
  obtain ⟨x, hx, hr⟩ := List.mem_flatMap.mp hr
  obtain ⟨c, hc, rfl⟩ := List.mem_map.mp hr
  have := (keqs_iff (p := p) (k := k) (d := d) (qs := xs.map fun x => (x, List.replicate d 0)) (fun q hq => by
    obtain ⟨y, _, rfl⟩ := List.mem_map.mp hq
    exact ⟨List.length_replicate, fun z hz => by rw [List.eq_of_mem_replicate hz]; omega⟩) hp hv).mpr (fun q hq => by
    obtain ⟨y, hy, rfl⟩ := List.mem_map.mp hq
    exact h y hy) ((plc k d).map (tk p x c), (List.replicate d (0 : Int)).getD c 0) (List.mem_flatMap.mpr ⟨_, List.mem_map_of_mem hx, List.mem_map_of_mem hc⟩)
  dsimp only at this
  rwa [show (List.replicate d (0 : Int)).getD c 0 = 0 from RR.fn_rep d c, Int.sub_zero] at this
theorem nought_of (hp : 0 < p) {xs : List Int} {v : List Int} (hv : v.length = (plc k d).length) (h : ∀ r ∈ krows p k d xs, (p : Int) ∣ dotL r v) : Nought p k d xs v := fun x hx => by
  refine (keqs_iff (p := p) (k := k) (d := d) (qs := xs.map fun x => (x, List.replicate d 0)) (fun q hq => by
    obtain ⟨y, _, rfl⟩ := List.mem_map.mp hq
    exact ⟨List.length_replicate, fun z hz => by rw [List.eq_of_mem_replicate hz]; omega⟩) hp hv).mp (fun e he => ?_) _ (List.mem_map_of_mem (f := fun x => (x, List.replicate d (0 : Int))) hx)
  obtain ⟨q, hq, he⟩ := List.mem_flatMap.mp he
  obtain ⟨c, hc, rfl⟩ := List.mem_map.mp he
  obtain ⟨y, hy, rfl⟩ := List.mem_map.mp hq
  dsimp only
  rw [show (List.replicate d (0 : Int)).getD c 0 = 0 from RR.fn_rep d c, Int.sub_zero]
  exact h _ (List.mem_flatMap.mpr ⟨y, hy, List.mem_map_of_mem hc⟩)
theorem made_dot (hp : 0 < p) {R : List (List Int)} {n : Nat} (hR : ∀ r ∈ R, r.length = n) {v : List Int} (hv : v.length = n) (h : ∀ r ∈ R, (p : Int) ∣ dotL r v) {w : RR.Rw} (m : RR.Sp p R w) : (p : Int) ∣ RR.dot n w (RR.fn v) :=
  RR.Made.phi (φ := fun w => RR.dot n w (RR.fn v)) (fun u z k => RR.dot_lin u z _ k n) (fun u z hc => RR.dot_cg n fun i _ => hc i) (fun r hr => by
    obtain ⟨l, hl, rfl⟩ := List.mem_map.mp hr
    rw [dot_dotL n l v (hR l hl) hv]
    exact h l hl) m
theorem dice_nought (hP : PrP p) {m : Nat} (hmk : m ≤ k) (hkd : k ≤ d) (hd : d ≤ 20) {xs : List Int} (hl : xs.length = m) (hx : ∀ x ∈ xs, 0 ≤ x ∧ x < (p : Int)) (un : xs.Pairwise fun x y => ¬ (p : Int) ∣ x - y) {s : List Int} (hs : s.length = (plm m k d).length) (sb : ∀ z ∈ s, 0 ≤ z ∧ z < (p : Int)) :
    ∃ y : List Int, y.length = (plc m d).length ∧ (∀ z ∈ y, 0 ≤ z ∧ z < (p : Int)) ∧ Nought p k d xs (y ++ s) := by
  have p1 := hP.1
  obtain ⟨y, yl, yb, h⟩ := dice_ex hP hmk hkd (qs := xs.map fun x => (x, List.replicate d 0)) ⟨by rw [List.length_map]; omega, fun q hq => by
      obtain ⟨x, hxm, rfl⟩ := List.mem_map.mp hq; exact hx x hxm, fun q hq => by
      obtain ⟨x, hxm, rfl⟩ := List.mem_map.mp hq; exact List.length_replicate, fun q hq z hz => by
      obtain ⟨x, hxm, rfl⟩ := List.mem_map.mp hq; rw [List.eq_of_mem_replicate hz]; omega, by rw [List.pairwise_map]; exact un⟩ (by rw [List.length_map, hl]) (fun q hq r hr => by
      obtain ⟨x, _, rfl⟩ := List.mem_map.mp hq
      obtain ⟨y, _, rfl⟩ := List.mem_map.mp hr
      dsimp only
      have z : ∀ a : Int, hor p a (List.replicate d 0) = 0 := fun a => by rw [hor_ev, ev_rep0]; rfl
      rw [z, z]) hs sb
  exact ⟨y, yl, yb, fun x hxm => h _ (List.mem_map_of_mem (f := fun x => (x, List.replicate d (0 : Int))) hxm)⟩
/-- what m houses keep, nought at the first so many places, is nought -/
theorem krows_inj (hP : PrP p) {m : Nat} (hmk : m ≤ k) (hkd : k ≤ d) (hd : d ≤ 20) {xs : List Int} (hl : xs.length = m) (hx : ∀ x ∈ xs, 0 ≤ x ∧ x < (p : Int)) (un : xs.Pairwise fun x y => ¬ (p : Int) ∣ x - y) {v : RR.Rw} (hv : RR.Sp p (krows p k d xs) v) (h0 : ∀ i, i < (plc m d).length → (p : Int) ∣ v i) (j : Nat) : (p : Int) ∣ v j := by
  have p1 := hP.1
  have hb := krows_bd (p := p) (k := k) (d := d) (xs := xs) (by omega)
  have hlen : (plc k d).length = (plc m d).length + (plm m k d).length := by rw [plc_split d hmk, List.length_append]
  rcases Nat.lt_or_ge j (plc m d).length with q | q
  · exact h0 j q
  · rcases Nat.lt_or_ge j (plc k d).length with q2 | q2
    · obtain ⟨y, yl, yb, hN⟩ := dice_nought hP hmk hkd hd hl hx un (s := (List.range (plm m k d).length).map fun i => if i = j - (plc m d).length then 1 else 0) (by rw [List.length_map, List.length_range]) (fun z hz => by
        obtain ⟨i, _, rfl⟩ := List.mem_map.mp hz
        split <;> omega)
      generalize hs : ((List.range (plm m k d).length).map fun i => if i = j - (plc m d).length then (1 : Int) else 0) = s at hN
      have sl : s.length = (plm m k d).length := by rw [← hs, List.length_map, List.length_range]
      have vl : (y ++ s).length = (plc k d).length := by rw [List.length_append, yl, sl, hlen]
      have hd := made_dot (by omega) (fun r hr => (hb r hr).1) vl (nought_dot (by omega) vl hN) hv
      have e : ∀ i, i < (plc k d).length → (plc m d).length ≤ i → RR.fn (y ++ s) i = if i = j then 1 else 0 := fun i h1 h2 => by
        show (y ++ s).getD i 0 = _
        rw [List.getD_eq_getElem?_getD, List.getElem?_append_right (by omega), yl, ← hs, List.getElem?_map, List.getElem?_range (by omega)]
        show (if i - (plc m d).length = j - (plc m d).length then (1 : Int) else 0) = _
        by_cases z : i = j
        · rw [if_pos (by omega), if_pos z]
        · rw [if_neg (by omega), if_neg z]
      have hd2 : (p : Int) ∣ RR.dot (plc k d).length v (RR.fn (y ++ s)) - RR.dot (plc k d).length (fun i => if i < (plc m d).length then 0 else v i) (RR.fn (y ++ s)) := RR.dot_cg _ fun i _ => by
        split
        · rename_i z
          rw [Int.sub_zero]; exact h0 i z
        · exact ⟨0, by simp⟩
      rw [RR.dot_one (v := fun i => if i < (plc m d).length then 0 else v i) (c := j) _ q2 (fun i hi hne => by
        split
        · simp
        · rw [e i hi (by omega), if_neg hne, Int.mul_zero])] at hd2
      rw [if_neg (by omega), e j q2 q, if_pos rfl, Int.mul_one] at hd2
      have := Int.dvd_sub hd hd2
      rwa [show RR.dot (plc k d).length v (RR.fn (y ++ s)) - (RR.dot (plc k d).length v (RR.fn (y ++ s)) - v j) = v j by omega] at this
    · exact RR.Made.phi (φ := fun v => v j) (fun _ _ _ => rfl) (fun v w h => h j) (fun r hr => by
        obtain ⟨l, hl, rfl⟩ := List.mem_map.mp hr
        rw [(hb l hl).big q2]; exact ⟨0, by simp⟩) hv
/-- so nothing is learned -/
theorem learned0 (hP : PrP p) {m : Nat} (hmk : m ≤ k) (hkd : k ≤ d) (hd : d ≤ 20) {xs : List Int} (hl : xs.length = m) (hx : ∀ x ∈ xs, 0 ≤ x ∧ x < (p : Int)) (un : xs.Pairwise fun x y => ¬ (p : Int) ∣ x - y) {ix : List Nat} (hi : ∀ i, i < (plc m d).length → i ∈ ix) {G G' : List (Nat × List Int)} (hG : RR.PF p (plc k d).length G) (sG : ∀ v, RR.Sp p (RR.rws G) v ↔ RR.Sp p (krows p k d xs) v) (hG' : RR.PF p ix.length G') (sG' : ∀ v, RR.Sp p (RR.rws G') v ↔ RR.Sp p ((krows p k d xs).map (pick ix)) v) : G.length = G'.length := by
  have p1 := hP.1
  exact rank_same hP (krows_bd (by omega)) hG sG hG' sG' fun v hv h0 j => krows_inj hP hmk hkd hd hl hx un hv (fun i h => h0 i (hi i h)) j
end
end Sm

namespace Sm
open PySem L2
abbrev ze (n : Int) : SV := .dat (.int n)
abbrev lD (zs : List Int) : PyData := .list (zs.map PyData.int)
abbrev rD (zs : List Int) : PyData := .tuple (zs.map PyData.int)
theorem iZp_e {a : SA} {ρ : Rho} {M M1 : Mem} {d e : PyData} {xs ys : List PyData} (h : a ρ M = some ([.dat d, .dat e], M1)) (h1 : seqD d = some xs) (h2 : seqD e = some ys) : iZp a ρ M = some (zipD xs ys, M1) := by
  unfold iZp
  rw [h]
  simp only [Option.bind_some, h1, h2]
theorem iDat_e {a : SE} {ρ : Rho} {M M1 : Mem} {d : PyData} {xs : List PyData} (h : a ρ M = some (.dat d, M1)) (h1 : seqD d = some xs) : iDat a ρ M = some (xs, M1) := by
  cases d <;> simp only [seqD] at h1 <;> first | (cases h1; done) | (injection h1 with h1; simp only [iDat, h, Option.bind_some, h1])
theorem row_at {M : Mem} {row : List Int} {c : Nat} (hc : c < row.length) {d : PyData} (hd : seqD d = some (row.map PyData.int)) : fIx M (.dat d) (ze (c : Int)) = some (ze (row.getD c 0)) := by
  have h : atI (row.map PyData.int) (c : Int) = some (.int (row.getD c 0)) := atI_in (k := c) rfl (by rw [List.getElem?_map, List.getElem?_eq_getElem hc, List.getD_eq_getElem?_getD, List.getElem?_eq_getElem hc]; rfl)
  cases d <;> simp only [seqD] at hd <;> first | (cases hd; done) | skip
  · injection hd with hd; rw [hd]; exact l_ixL h
  · injection hd with hd; rw [hd]; exact l_ixT h
/-- a form as a dict; k: its rows as lists, or as tuples -/
abbrev fD (k : List Int → PyData) (G : List (Nat × List Int)) : PyData := .dict (G.map fun g => (PyData.int (g.1 : Int), k g.2))
theorem enum_ints : ∀ (l : List Int), enumD (l.map PyData.int) = (l.zipIdx).map fun q => PyData.tuple [.int (q.2 : Int), .int q.1] := by
  intro l
  apply List.ext_getElem
  · simp [enumD]
  · intro i h1 h2
    simp [enumD] at h1 ⊢
    rw [List.getElem?_eq_getElem h1]; rfl
theorem range_natR (n : Nat) : rangeD 0 (n : Int) = (List.range n).map fun i : Nat => PyData.int (i : Int) := by
  unfold rangeD
  rw [show ((n : Int) - 0).toNat = n by omega]
  exact List.map_congr_left fun i _ => by rw [Int.zero_add]
theorem loop_rgR {s : SS} {M : Mem} {j : Nat} (I : Nat → Rho → Prop) (n : Nat) {ρ0 : Rho} (h0 : I 0 ρ0) (hs : ∀ (i : Nat) (ρ : Rho), i < n → I i ρ → ∃ ρ1, s (ρ.set j (some (ze (i : Int)))) M = some (.nx ρ1 M) ∧ I (i + 1) ρ1) :
    ∃ ρ', loop (gNm j) s (rangeD 0 (n : Int)) ρ0 M = some (.nx ρ' M) ∧ I n ρ' := by
  obtain ⟨ρ', M', e, rfl, h'⟩ := loop_inv (g := gNm j) (s := s) (fun i ρ M1 => M1 = M ∧ I i ρ) (rangeD 0 (n : Int)) 0 ρ0 M ⟨rfl, h0⟩ (by
    rintro i d ρ M1 hd ⟨rfl, hI⟩
    rw [Nat.zero_add] at hI ⊢
    rw [range_natR, List.getElem?_map] at hd
    obtain ⟨i', hi', rfl⟩ := Option.map_eq_some_iff.mp hd
    obtain ⟨q1, q2⟩ := List.getElem?_eq_some_iff.mp hi'
    rw [List.getElem_range] at q2
    rw [List.length_range] at q1
    subst q2
    obtain ⟨ρ1, k1, k2⟩ := hs i ρ q1 hI
    exact ⟨_, M1, ρ1, M1, rfl, k1, rfl, k2⟩)
  rw [range_natR, List.length_map, List.length_range, Nat.zero_add] at h'
  exact ⟨ρ', e, h'⟩
theorem lc_gen {α : Type} {g : SG} {tt : SB} {el : SE} {ρ : Rho} {M : Mem} {toD : α → PyData} {P : α → Bool} {f : α → PyData} : ∀ xs : List α, (∀ x ∈ xs, ∃ ρ1, g (.dat (toD x)) ρ M = some (ρ1, M) ∧ tt ρ1 M = some (P x, M) ∧ (P x = true → el ρ1 M = some (.dat (f x), M))) → lcL g tt el ρ (xs.map toD) M = some ((xs.filter P).map f, M)
  | [], _ => rfl
  | x :: xs, h => by
    obtain ⟨ρ1, e1, e2, e3⟩ := h x List.mem_cons_self
    have ih := lc_gen xs fun y hy => h y (List.mem_cons_of_mem _ hy)
    rw [List.map_cons]
    cases hP : P x with
    | false =>
      rw [hP] at e2
      simp only [lcL, e1, Option.bind_some, e2, List.filter_cons, hP, Bool.false_eq_true, if_false, ih]
    | true =>
      rw [hP] at e2
      simp only [lcL, e1, Option.bind_some, e2, List.filter_cons, hP, if_true, e3 hP, ih, List.map_cons]
theorem lc_all {α : Type} {g : SG} {el : SE} {ρ : Rho} {M : Mem} {toD : α → PyData} {f : α → PyData} (xs : List α) (h : ∀ x ∈ xs, ∃ ρ1, g (.dat (toD x)) ρ M = some (ρ1, M) ∧ el ρ1 M = some (.dat (f x), M)) : lcL g bYes el ρ (xs.map toD) M = some (xs.map f, M) := by
  have := lc_gen (tt := bYes) (P := fun _ => true) xs fun x hx => by
    obtain ⟨ρ1, e1, e2⟩ := h x hx
    exact ⟨ρ1, e1, rfl, fun _ => e2⟩
  rw [List.filter_eq_self.mpr fun _ _ => rfl] at this
  exact this
abbrev cd (ds : List PyData) : Option (List SV) := some (ds.map SV.dat)
theorem rg_len (n : Int) : ((rangeD 0 n).length : Int) = max n 0 := by
  unfold rangeD
  rw [List.length_map, List.length_range]; omega
theorem boolsOf_map (f : PyData → Bool) : ∀ ds : List PyData, boolsOf (ds.map fun d => .bool (f d)) = some (ds.map f)
  | [] => rfl
  | d :: ds => by simp only [List.map_cons, boolsOf, boolsOf_map f ds, Option.bind_some]
theorem all_map {M : Mem} (f : PyData → Bool) (ds : List PyData) : lift1 dAll M (.dat (.list (ds.map fun d => .bool (f d)))) = some (.dat (.bool (ds.all f))) := by
  simp only [lift1, dAll, boolsOf_map, Option.bind_some]
  rw [List.all_map]; rfl

theorem mem_get (M : Mem) (F : Option (List SV)) : (M ++ [F])[M.length]? = some F := by
  rw [List.getElem?_append_right (Nat.le_refl _), Nat.sub_self]; rfl
theorem mem_set (M : Mem) (F v : Option (List SV)) : (M ++ [F]).set M.length v = M ++ [v] := by
  rw [List.set_append_right _ _ (Nat.le_refl _), Nat.sub_self]; rfl
theorem mem_take (M : Mem) (F : Option (List SV)) : (M ++ [F]).take M.length = M := List.take_left' rfl
theorem range_nat (n : Nat) : rangeD 0 (n : Int) = (List.range n).map fun i : Nat => PyData.int (i : Int) := by
  unfold rangeD
  rw [show ((n : Int) - 0).toNat = n by omega]
  exact List.map_congr_left fun i _ => by rw [Int.zero_add]
theorem app_at {ρ : Rho} {k : Nat} {el : SE} {d : PyData} {ds : List PyData} {M : Mem} (hv : ρ[k]? = some (some (.cel M.length))) (he : el ρ (M ++ [cd ds]) = some (.dat d, M ++ [cd ds])) (hl : ds.length < 10000) :
    sApp (eVar k) el ρ (M ++ [cd ds]) = some (.nx ρ (M ++ [cd (ds ++ [d])])) := by
  have g : (M ++ [cd ds])[M.length]? = some (cd ds) := by rw [List.getElem?_append_right (Nat.le_refl _), Nat.sub_self]; rfl
  have := sApp_eq (o := eVar k) (i := M.length) (M1 := M ++ [cd ds]) (eVar_eq hv) he g g (by rw [List.length_map]; omega)
  rw [this, List.set_append_right _ _ (Nat.le_refl _), Nat.sub_self]
  simp [cd]
theorem frz_at {ρ ρ1 : Rho} {k : Nat} {s : SS} {ds : List PyData} {M M0 : Mem} (hs : s ρ M0 = some (.nx ρ1 (M ++ [cd ds]))) (hv : ρ1[k]? = some (some (.cel M.length))) :
    sFrz k s ρ M0 = some (.nx (ρ1.set k (some (.dat (.list ds)))) (M ++ [none])) := by
  have g : (M ++ [cd ds])[M.length]? = some (cd ds) := by rw [List.getElem?_append_right (Nat.le_refl _), Nat.sub_self]; rfl
  have := sFrz_eq hs hv g (dats_map ds)
  rw [this, List.set_append_right _ _ (Nat.le_refl _), Nat.sub_self]
  rfl
theorem grow_loop {s : SS} {M : Mem} {f : Nat → PyData} {j : Nat} (I : Rho → Prop) (n : Nat) {ρ0 : Rho} (h0 : I ρ0)
    (hs : ∀ (i : Nat) (ρ : Rho), i < n → I ρ → ∃ ρ1, I ρ1 ∧ s (ρ.set j (some (ze (i : Int)))) (M ++ [cd ((List.range i).map f)]) = some (.nx ρ1 (M ++ [cd ((List.range i).map f ++ [f i])]))) :
    ∃ ρ', I ρ' ∧ loop (gNm j) s (rangeD 0 (n : Int)) ρ0 (M ++ [some []]) = some (.nx ρ' (M ++ [cd ((List.range n).map f)])) := by
  obtain ⟨ρ', M', e, h1, h2⟩ := loop_inv (g := gNm j) (s := s) (fun i ρ M1 => I ρ ∧ M1 = M ++ [cd ((List.range i).map f)]) (rangeD 0 (n : Int)) 0 ρ0 (M ++ [some []]) ⟨h0, rfl⟩ (by
    rintro i d ρ M1 hd ⟨hI, rfl⟩
    rw [Nat.zero_add]
    rw [range_nat, List.getElem?_map] at hd
    obtain ⟨i', hi', rfl⟩ := Option.map_eq_some_iff.mp hd
    obtain ⟨q1, q2⟩ := List.getElem?_eq_some_iff.mp hi'
    rw [List.getElem_range] at q2
    rw [List.length_range] at q1
    subst q2
    obtain ⟨ρ1, k1, k2⟩ := hs i ρ q1 hI
    refine ⟨_, _, ρ1, _, rfl, k2, k1, ?_⟩
    rw [List.range_succ, List.map_append]; rfl)
  rw [range_nat, List.length_map, List.length_range, Nat.zero_add] at h2
  subst h2
  exact ⟨ρ', h1, by rw [range_nat] at e ⊢; exact e⟩
theorem lc_range {el : SE} {it : SI} {ρ ρ0 : Rho} {M : Mem} {n j : Nat} {vs : List Nat} {f : Nat → PyData} (hi : it ρ M = some (rangeD 0 (n : Int), M)) (hw : wipeR ρ vs = ρ0) (hn : n ≤ 1000) (h : ∀ i : Nat, i < n → el (ρ0.set j (some (ze (i : Int)))) M = some (.dat (f i), M)) :
    eLc it (gNm j) bYes el vs ρ M = some (.dat (.list ((List.range n).map f)), M) := by
  have lc := lcL_map (g := gNm j) (ρ := ρ0) (M := M) (el := el) (f := fun d => match d with | .int i => f i.toNat | _ => .none) (rangeD 0 (n : Int)) (by
    intro d hd
    rw [range_nat] at hd
    obtain ⟨i, hi, rfl⟩ := List.mem_map.mp hd
    exact ⟨_, rfl, h i (List.mem_range.mp hi)⟩)
  refine eLc_eq (M1 := M) hi (by rw [range_nat, List.length_map, List.length_range]; omega) ?_
  rw [hw, lc, range_nat, List.map_map]
  rfl
abbrev shD (p k d l : Int) : PyData := .tuple [.int p, .int k, .int d, .int l]
abbrev tD (d : Nat) (T : Nat → Nat → Int) : PyData := .tuple ((List.range d).map fun r => .tuple ((List.range d).map fun c => .int (T r c)))
theorem tup_range {n : Nat} (f : Nat → PyData) {M : Mem} {i : Nat} (hi : i < n) : fIx M (.dat (.tuple ((List.range n).map f))) (ze (i : Int)) = some (.dat (f i)) :=
  l_ixT (atI_in (k := i) rfl (by rw [List.getElem?_map, List.getElem?_range hi]; rfl))
theorem lst_range {n : Nat} (f : Nat → PyData) {M : Mem} {i : Nat} (hi : i < n) : fIx M (.dat (.list ((List.range n).map f))) (ze (i : Int)) = some (.dat (f i)) :=
  l_ixL (atI_in (k := i) rfl (by rw [List.getElem?_map, List.getElem?_range hi]; rfl))
theorem min2_nat {M : Mem} (a b : Nat) : fMin2 M [ze (a : Int), ze (b : Int)] = some (ze ((min a b : Nat) : Int)) := by
  show some (ze (if (b : Int) < (a : Int) then (b : Int) else (a : Int))) = _
  congr 3
  split <;> omega
theorem max2_nat {M : Mem} (a b : Nat) : fMax2 M [ze (a : Int), ze (b : Int)] = some (ze ((max a b : Nat) : Int)) := by
  show some (ze (if (b : Int) > (a : Int) then (b : Int) else (a : Int))) = _
  congr 3
  split <;> omega
theorem sum_range (f : Nat → Int) : ∀ n : Nat, ((List.range n).map f).sum = sm n f
  | 0 => rfl
  | n + 1 => by rw [List.range_succ, List.map_append, List.sum_append, sum_range f n]; simp [sm]
theorem pwl_ints (p x : Int) (n : Nat) : (pwl p x n).map PyData.int = (List.range n).map fun r => PyData.int (pw p x r) := by
  unfold pwl; rw [List.map_map]; rfl
theorem kept_ints (p x : Int) (d : Nat) (T : Nat → Nat → Int) : (keptL p d T x).map PyData.int = (List.range d).map fun c => PyData.int (hor p x (colL d T c)) := by
  unfold keptL; rw [List.map_map]; rfl
theorem zipD_range {n : Nat} (f g : Nat → PyData) : zipD ((List.range n).map f) ((List.range n).map g) = (List.range n).map fun r => PyData.tuple [f r, g r] := by
  unfold zipD
  rw [List.zip_map', List.map_map]; rfl
theorem rep_flat (d : Nat) : (List.replicate d [PyData.int 0]).flatten = (List.replicate d (0 : Int)).map PyData.int := by
  rw [List.map_replicate]
  induction d with
  | zero => rfl
  | succ n ih => rw [List.replicate_succ, List.flatten_cons, ih, List.replicate_succ]; rfl
theorem range_from (k d : Nat) : rangeD (k : Int) (d : Int) = (List.range (d - k)).map fun i : Nat => PyData.int ((k + i : Nat) : Int) := by
  unfold rangeD
  rw [show ((d : Int) - (k : Int)).toNat = d - k by omega]
  exact List.map_congr_left fun i _ => by rw [Int.natCast_add]
theorem flags_ints : ∀ zs : List Int, flagsOf (zs.map PyData.int) = some (zs.map fun z => z != 0)
  | [] => rfl
  | z :: zs => by simp only [List.map_cons, flagsOf, flagD, Option.bind_some, flags_ints zs]
theorem intsOf_map' : ∀ ns : List Int, intsOf (ns.map PyData.int) = some ns
  | [] => rfl
  | n :: ns => by simp only [List.map_cons, intsOf, intsOf_map' ns, Option.bind_some]
theorem srt_lt' {l : List Int} (h : l.Nodup) : (srtI l).Pairwise (· < ·) := by
  have h1 := srtI_sorted l
  have h2 : (srtI l).Nodup := (srtI_perm l).nodup_iff.mpr h
  exact List.Pairwise.imp₂ (fun a c h1 h2 => by omega) h1 (List.nodup_iff_pairwise_ne.mp h2)
theorem l_sumLd {M : Mem} (zs : List Int) : lift1 dSumA M (.dat (lD zs)) = some (ze zs.sum) := by
  simp only [lift1, dSumA, intsOf_map', Option.bind_some]
theorem zip_ints (a b : List Int) : zipD (a.map PyData.int) (b.map PyData.int) = (a.zip b).map fun q => PyData.tuple [.int q.1, .int q.2] := by
  unfold zipD
  rw [List.zip_map, List.map_map]; rfl
abbrev ciR (acc : List Int) : Option (List SV) := some ((acc.map PyData.int).map SV.dat)
theorem repN_ok {ρ : Rho} {M : Mem} {d : Nat} {e : SE} (he : e ρ (M ++ [some [ze 0]]) = some (ze (d : Int), M ++ [some [ze 0]])) (hd : d ≤ 1000) : eRepN (eNew (aCons (eC (.int 0)) aNil)) e ρ M = some (.cel (M ++ [some [ze 0]]).length, M ++ [some [ze 0]] ++ [ciR (List.replicate d 0)]) := by
  have h1 : eNew (aCons (eC (.int 0)) aNil) ρ M = some (.cel M.length, M ++ [some [ze 0]]) := rfl
  have h3 : cellAt (M ++ [some [ze 0]]) (.cel M.length) = some (M.length, [ze 0]) := by
    simp [cellAt]
  have h5 : (List.replicate d [PyData.int 0]).flatten = (List.replicate d (0 : Int)).map PyData.int := by
    clear he hd
    induction d with
    | zero => rfl
    | succ d ih => rw [List.replicate_succ, List.flatten_cons, ih, List.replicate_succ]; rfl
  unfold eRepN
  rw [h1]
  simp only [Option.bind_some, he, h3, intV, dats]
  rw [if_pos ⟨by omega, by omega, by decide⟩, Int.toNat_natCast, h5]
theorem range_at {lo hi : Int} {i : Nat} {x : PyData} (h : (rangeD lo hi)[i]? = some x) : ∃ z, x = .int z ∧ lo ≤ z ∧ z < hi := by
  unfold rangeD at h
  rw [List.getElem?_map] at h
  obtain ⟨k, hk, e⟩ := Option.map_eq_some_iff.mp h
  obtain ⟨h1, h2⟩ := List.getElem?_eq_some_iff.mp hk
  rw [List.length_range] at h1
  rw [List.getElem_range] at h2
  subst h2
  exact ⟨_, e.symm, by omega, by omega⟩
theorem zipD_ints (a b : List Int) : zipD (a.map PyData.int) (b.map PyData.int) = (a.zip b).map fun q => PyData.tuple [.int q.1, .int q.2] := by
  unfold zipD
  rw [List.zip_map, List.map_map]; rfl
theorem map_erase {α β : Type} (f : α → β) : ∀ (l : List α) (m : Nat), (l.map f).eraseIdx m = (l.eraseIdx m).map f
  | [], m => by simp
  | a :: l, 0 => rfl
  | a :: l, m + 1 => by rw [List.map_cons, List.eraseIdx_cons_succ, List.eraseIdx_cons_succ, List.map_cons, map_erase f l m]
theorem pop_perm {α : Type} : ∀ (l : List α) (m : Nat) (h : m < l.length), (l[m] :: l.eraseIdx m).Perm l
  | a :: l, 0, h => List.Perm.refl _
  | a :: l, m + 1, h => by
    rw [List.eraseIdx_cons_succ, List.getElem_cons_succ]
    exact (List.Perm.swap a _ _).trans (List.Perm.cons a (pop_perm l m (by simpa using h)))
structure Sw (d : PyData) (k w : Nat) : Prop where
  sh : d.showable = true
  dp : d.depth ≤ k
  wl : wt d ≤ w
  nd : d.hasDict = false
theorem Sw.int {z : Int} (h : -(2 ^ 60) < z ∧ z < 2 ^ 60) : Sw (.int z) 0 1921 := by
  have h2 : z.natAbs < 2 ^ 60 := by omega
  have h3 : z.natAbs.log2 < 1920 := by
    by_cases hz : z.natAbs = 0
    · rw [hz]; decide
    · exact Nat.lt_trans ((Nat.log2_lt hz).mpr h2) (by decide)
  exact ⟨by simp only [PyData.showable, decide_eq_true h3], Nat.le_refl _, Nat.le_refl _, rfl⟩
theorem Sw.none : Sw .none 0 4 := ⟨rfl, Nat.le_refl _, Nat.le_refl _, rfl⟩
theorem Sw.bool {b : Bool} : Sw (.bool b) 0 5 := ⟨rfl, Nat.le_refl _, Nat.le_refl _, rfl⟩
theorem Sw.up {d : PyData} {k w k' w' : Nat} (h : Sw d k w) (h1 : k ≤ k') (h2 : w ≤ w') : Sw d k' w' := ⟨h.sh, Nat.le_trans h.dp h1, Nat.le_trans h.wl h2, h.nd⟩
theorem Sw.all {k w : Nat} : ∀ {ds : List PyData}, (∀ d ∈ ds, Sw d k w) → PyData.showableAll ds = true ∧ PyData.depthAll ds ≤ k ∧ wtAll ds ≤ ds.length * (w + 2) ∧ PyData.hasDictAll ds = false
  | [], _ => ⟨rfl, Nat.zero_le _, Nat.zero_le _, rfl⟩
  | d :: ds, h => by
    obtain ⟨h1, h2, h3, h4⟩ := Sw.all (ds := ds) fun x hx => h x (List.mem_cons_of_mem _ hx)
    have q := h d List.mem_cons_self
    have q2 := q.dp
    have q3 := q.wl
    refine ⟨by simp only [PyData.showableAll, q.sh, h1, Bool.and_self], by simp only [PyData.depthAll]; omega, ?_, by simp only [PyData.hasDictAll, q.nd, h4, Bool.or_self]⟩
    simp only [wtAll, List.length_cons, Nat.add_mul, Nat.one_mul]; omega
theorem Sw.tup {ds : List PyData} {k w : Nat} (h : ∀ d ∈ ds, Sw d k w) : Sw (.tuple ds) (k + 1) (3 + ds.length * (w + 2)) := by
  obtain ⟨h1, h2, h3, h4⟩ := Sw.all h
  exact ⟨by simp only [PyData.showable, h1], by simp only [PyData.depth]; omega, by simp only [wt]; omega, by simp only [PyData.hasDict, h4]⟩
theorem Sw.lst {ds : List PyData} {k w : Nat} (h : ∀ d ∈ ds, Sw d k w) : Sw (.list ds) (k + 1) (3 + ds.length * (w + 2)) := by
  obtain ⟨h1, h2, h3, h4⟩ := Sw.all h
  exact ⟨by simp only [PyData.showable, h1], by simp only [PyData.depth]; omega, by simp only [wt]; omega, by simp only [PyData.hasDict, h4]⟩
theorem Sw.row {zs : List Int} {n : Nat} (h : ∀ z ∈ zs, 0 ≤ z ∧ z < 1000) (hn : zs.length ≤ n) : Sw (.tuple (zs.map PyData.int)) 1 (3 + n * 1923) := by
  refine (Sw.tup (k := 0) (w := 1921) fun d hd => ?_).up (Nat.le_refl _) ?_
  · obtain ⟨z, hz, rfl⟩ := List.mem_map.mp hd
    have := h z hz
    exact Sw.int (by omega)
  · rw [List.length_map]
    exact Nat.add_le_add_left (Nat.mul_le_mul_right _ hn) 3
theorem Sw.repr {d : PyData} {k w : Nat} {M : Mem} (h : Sw d k w) (h1 : k ≤ 64) (h2 : Nat.ble w 1000000 = true) : lift1 dRepr M (.dat d) = some (.dat (.str d.shown)) := by
  refine l_repr ?_
  rw [h.sh, h.nd, decide_eq_true (Nat.le_trans h.dp h1), decide_eq_true (Nat.le_trans h.wl (ble_le h2))]
  rfl
theorem rising_eq : ∀ {l1 l2 : List Int}, l1.Pairwise (· < ·) → l2.Pairwise (· < ·) → (∀ x, x ∈ l1 ↔ x ∈ l2) → l1 = l2
  | [], [], _, _, _ => rfl
  | [], b :: l2, _, _, h => absurd ((h b).mpr List.mem_cons_self) List.not_mem_nil
  | a :: l1, [], _, _, h => absurd ((h a).mp List.mem_cons_self) List.not_mem_nil
  | a :: l1, b :: l2, h1, h2, h => by
    obtain ⟨a1, a2⟩ := List.pairwise_cons.mp h1
    obtain ⟨b1, b2⟩ := List.pairwise_cons.mp h2
    have e : a = b := by
      rcases List.mem_cons.mp ((h a).mp List.mem_cons_self) with q | q
      · exact q
      · rcases List.mem_cons.mp ((h b).mpr List.mem_cons_self) with r | r
        · exact r.symm
        · have := b1 a q; have := a1 b r; omega
    subst e
    rw [rising_eq a2 b2 fun x => ?_]
    constructor
    · intro hx
      rcases List.mem_cons.mp ((h x).mp (List.mem_cons_of_mem _ hx)) with q | q
      · have := a1 x hx; omega
      · exact q
    · intro hx
      rcases List.mem_cons.mp ((h x).mpr (List.mem_cons_of_mem _ hx)) with q | q
      · have := b1 x hx; omega
      · exact q

theorem ints_lay : ∀ a : List Int, PyData.canLayAll0 (a.map PyData.int) = true ∧ PyData.depthAll (a.map PyData.int) ≤ 0
  | [] => ⟨rfl, by simp [PyData.depthAll]⟩
  | x :: a => by
    obtain ⟨h1, h2⟩ := ints_lay a
    exact ⟨by simp [PyData.canLayAll0, PyData.canLay0, h1], by simp [PyData.depthAll, PyData.depth]; omega⟩
theorem ints_shaped (a : List Int) : SeqAt.shaped (.tuple (a.map PyData.int)) = true := by
  obtain ⟨h1, h2⟩ := ints_lay a
  have h3 : (PyData.tuple (a.map PyData.int)).depth ≤ 64 := by simp only [PyData.depth]; omega
  have h4 : (PyData.tuple (a.map PyData.int)).canLay0 = true := by simp only [PyData.canLay0]; exact h1
  unfold SeqAt.shaped
  rw [h4, decide_eq_true h3]; rfl
theorem eqv_ints : ∀ a b : List Int, PyData.eqvAll (a.map PyData.int) (b.map PyData.int) = (a == b)
  | [], [] => by simp [PyData.eqvAll]
  | [], _ :: _ => by simp [PyData.eqvAll]
  | _ :: _, [] => by simp [PyData.eqvAll]
  | x :: a, y :: b => by
    simp only [List.map_cons, PyData.eqvAll, PyData.eqv, eqv_ints a b, List.cons_beq_cons]
theorem l_eqInts {M : Mem} (a b : List Int) : lift2 dEq M (.dat (.tuple (a.map PyData.int))) (.dat (.tuple (b.map PyData.int))) = some (.dat (.bool (a == b))) := by
  have e : PyData.eqv (.tuple (a.map PyData.int)) (.tuple (b.map PyData.int)) = (a == b) := by simp only [PyData.eqv]; exact eqv_ints a b
  simp only [lift2, dEq, ints_shaped, Bool.and_self, if_true, Option.bind_some, e]
theorem l_neInts {M : Mem} (a b : List Int) : lift2 dNe M (.dat (.tuple (a.map PyData.int))) (.dat (.tuple (b.map PyData.int))) = some (.dat (.bool (!(a == b)))) := by
  have e : PyData.eqv (.tuple (a.map PyData.int)) (.tuple (b.map PyData.int)) = (a == b) := by simp only [PyData.eqv]; exact eqv_ints a b
  simp only [lift2, dNe, ints_shaped, Bool.and_self, if_true, Option.bind_some, e]
def restB (p : Int) : PyData → Bool
  | .int i => decide (0 ≤ i) && decide (i < p)
  | _ => false
def rowB (p n : Int) : PyData → Bool
  | .tuple ds => ((ds.length : Int) == n) && ds.all (restB p)
  | _ => false
/-! ### lists of lists that change -/
abbrev rwC (d : Nat) (T : Nat → Nat → Int) (r : Nat) : List SV := (List.range d).map fun c => ze (T r c)
abbrev tmB (d : Nat) (T : Nat → Nat → Int) (i : Nat) : Mem := (List.range (2 * i)).map fun j => if j % 2 = 0 then some [ze 0] else some (rwC d T (j / 2))
abbrev tmO (M : Mem) (d : Nat) : List SV := (List.range d).map fun r => SV.cel (M.length + (2 * r + 1))
abbrev tm (M : Mem) (d : Nat) (T : Nat → Nat → Int) : Mem := M ++ tmB d T d ++ [some (tmO M d)]
theorem tmB_succ (d : Nat) (T : Nat → Nat → Int) (i : Nat) : tmB d T (i + 1) = tmB d T i ++ [some [ze 0]] ++ [some (rwC d T i)] := by
  unfold tmB
  rw [show 2 * (i + 1) = 2 * i + 1 + 1 by omega, List.range_succ, List.range_succ, List.map_append, List.map_append, List.map_singleton, List.map_singleton, if_pos (by omega), if_neg (by omega), show (2 * i + 1) / 2 = i by omega]
theorem lcC_tab {g : SG} {e : SE} {ρ : Rho} {d : Nat} (hd : d ≤ 1000) : ∀ (ds : List PyData) (i : Nat) (M : Mem), (∀ x ∈ ds, ∃ ρ1, ∀ MM, g (.dat x) ρ MM = some (ρ1, MM) ∧ e ρ1 MM = some (ze (d : Int), MM)) →
    lcC g (eRepN (eNew (aCons (eC (.int 0)) aNil)) e) ρ ds (M ++ tmB d (fun _ _ => 0) i) = some ((List.range ds.length).map fun r => SV.cel (M.length + (2 * (i + r) + 1)), M ++ tmB d (fun _ _ => 0) (i + ds.length))
  | [], i, M, _ => rfl
  | x :: ds, i, M, h => by
    obtain ⟨ρ1, h1⟩ := h x List.mem_cons_self
    have ih := lcC_tab hd ds (i + 1) M fun y hy => h y (List.mem_cons_of_mem _ hy)
    have r := repN_ok (M := M ++ tmB d (fun _ _ => 0) i) (h1 _).2 hd
    unfold lcC
    rw [(h1 _).1]
    simp only [Option.bind_some]
    rw [r]
    simp only [Option.bind_some]
    have em : M ++ tmB d (fun _ _ => 0) i ++ [some [ze 0]] ++ [ciR (List.replicate d 0)] = M ++ tmB d (fun _ _ => 0) (i + 1) := by
      rw [tmB_succ]
      have : ciR (List.replicate d 0) = some (rwC d (fun _ _ => 0) i) := by
        unfold ciR rwC
        rw [List.map_map, List.map_replicate, List.map_const', List.length_range]; rfl
      rw [this]
      simp only [List.append_assoc]
    rw [em, ih]
    simp only [Option.bind_some]
    congr 2
    · rw [List.length_cons, List.range_succ_eq_map, List.map_cons, List.map_map]
      congr 1
      · congr 1
        rw [List.length_append, List.length_append, List.length_map, List.length_range, List.length_singleton]; omega
      · exact List.map_congr_left fun a _ => by show SV.cel _ = SV.cel _; congr 1; omega
    · rw [List.length_cons, show i + 1 + ds.length = i + (ds.length + 1) by omega]
theorem tm_new {it : SI} {g : SG} {e : SE} {vs : List Nat} {ρ : Rho} {M : Mem} {d : Nat} {ds : List PyData} (hd : d ≤ 1000) (hi : it ρ M = some (ds, M)) (hl : ds.length = d) (h : ∀ x ∈ ds, ∃ ρ1, ∀ MM, g (.dat x) (wipeR ρ vs) MM = some (ρ1, MM) ∧ e ρ1 MM = some (ze (d : Int), MM)) :
    eLcC it g (eRepN (eNew (aCons (eC (.int 0)) aNil)) e) vs ρ M = some (.cel (M.length + 2 * d), tm M d fun _ _ => 0) := by
  have k := lcC_tab (ρ := wipeR ρ vs) hd ds 0 M h
  have e0 : M ++ tmB d (fun _ _ => 0) 0 = M := by show M ++ [] = M; exact List.append_nil M
  rw [e0, Nat.zero_add, hl] at k
  unfold eLcC
  rw [hi]
  simp only [Option.bind_some]
  rw [if_pos (by omega), k]
  simp only [Option.bind_some]
  congr 2
  · congr 1
    rw [List.length_append, List.length_map, List.length_range]
  · unfold tm tmO
    congr 3
    exact List.map_congr_left fun a _ => by rw [Nat.zero_add]
section
variable {M : Mem} {d : Nat} {T : Nat → Nat → Int}
theorem tm_len : (M ++ tmB d T d).length = M.length + 2 * d := by rw [List.length_append, List.length_map, List.length_range]
theorem tm_out : (tm M d T)[M.length + 2 * d]? = some (some (tmO M d)) := by
  unfold tm
  rw [List.getElem?_append_right (by rw [tm_len]; exact Nat.le_refl _), tm_len, Nat.sub_self]; rfl
theorem tm_row {r : Nat} (hr : r < d) : (tm M d T)[M.length + (2 * r + 1)]? = some (some (rwC d T r)) := by
  unfold tm
  rw [List.getElem?_append_left (by rw [tm_len]; omega), List.getElem?_append_right (by omega), Nat.add_sub_cancel_left, List.getElem?_map, List.getElem?_range (by omega)]
  show some (if (2 * r + 1) % 2 = 0 then _ else _) = _
  rw [if_neg (by omega), show (2 * r + 1) / 2 = r by omega]
def updT (T : Nat → Nat → Int) (r c : Nat) (z : Int) (a b : Nat) : Int := if a = r ∧ b = c then z else T a b
theorem tm_set {r c : Nat} {z : Int} (hr : r < d) (hc : c < d) : (tm M d T).set (M.length + (2 * r + 1)) (some ((rwC d T r).set c (ze z))) = tm M d (updT T r c z) := by
  unfold tm
  rw [List.set_append_left _ _ (by rw [tm_len]; omega), List.set_append_right _ _ (by omega), Nat.add_sub_cancel_left]
  congr 2
  refine List.ext_getElem? fun i => ?_
  rw [List.getElem?_set, List.length_map, List.length_range, List.getElem?_map, List.getElem?_map]
  by_cases hi : i < 2 * d
  · rw [List.getElem?_range hi]
    by_cases e : 2 * r + 1 = i
    · rw [if_pos e, if_pos (by omega)]
      subst e
      show _ = some (if (2 * r + 1) % 2 = 0 then _ else _)
      rw [if_neg (by omega), show (2 * r + 1) / 2 = r by omega]
      congr 2
      refine List.ext_getElem? fun j => ?_
      rw [List.getElem?_set, List.length_map, List.length_range, List.getElem?_map, List.getElem?_map]
      by_cases hj : j < d
      · rw [List.getElem?_range hj]
        by_cases e2 : c = j
        · rw [if_pos e2, if_pos hc]
          show _ = some (ze (updT T r c z r j))
          unfold updT
          rw [if_pos ⟨rfl, e2.symm⟩]
        · rw [if_neg e2]
          show _ = some (ze (updT T r c z r j))
          unfold updT
          rw [if_neg fun h => e2 h.2.symm]; rfl
      · rw [List.getElem?_eq_none (by rw [List.length_range]; omega)]
        split
        · omega
        · rfl
    · rw [if_neg e]
      show some (if i % 2 = 0 then _ else _) = some (if i % 2 = 0 then _ else _)
      split
      · rfl
      · congr 2
        refine List.map_congr_left fun j _ => ?_
        unfold updT
        rw [if_neg fun h => by omega]
  · rw [List.getElem?_eq_none (by rw [List.length_range]; omega)]
    split
    · omega
    · rfl
theorem tm_get {ρ : Rho} {a b : Nat} {r : Nat} (ha : ρ[a]? = some (some (.cel (M.length + 2 * d)))) (hb : ρ[b]? = some (some (ze (r : Int)))) (hr : r < d) : eOp fIx (eVar a) (eVar b) ρ (tm M d T) = some (.cel (M.length + (2 * r + 1)), tm M d T) := by
  refine eOp_eq (M1 := tm M d T) (M2 := tm M d T) (eVar_eq ha) (eVar_eq hb) ?_
  simp only [fIx, tm_out]
  exact atI_in (k := r) rfl (by rw [List.getElem?_map, List.getElem?_range hr]; rfl)
theorem tm_store {ρ : Rho} {a b c : Nat} {r s : Nat} {z : Int} (ha : ρ[a]? = some (some (.cel (M.length + 2 * d)))) (hb : ρ[b]? = some (some (ze (r : Int)))) (hc : ρ[c]? = some (some (ze (s : Int)))) (hr : r < d) (hs : s < d) :
    gStore (eOp fIx (eVar a) (eVar b)) (eVar c) (ze z) ρ (tm M d T) = some (ρ, tm M d (updT T r s z)) := by
  unfold gStore
  rw [tm_get ha hb hr]
  simp only [Option.bind_some]
  rw [eVar_eq hc]
  simp only [Option.bind_some, tm_row hr]
  rw [ixN_in (by rw [List.length_map, List.length_range]; exact hs)]
  simp only [Option.bind_some]
  rw [tm_set hr hs]
theorem frz_rows {M' : Mem} {base : Nat} : ∀ (rs : List Nat) (M' : Mem), (∀ r ∈ rs, M'[base + (2 * r + 1)]? = some (some (rwC d T r))) → rs.Nodup →
    ∃ M2, frzAll M' (rs.map fun r => SV.cel (base + (2 * r + 1))) = some (rs.map fun r => .list ((List.range d).map fun c => .int (T r c)), M2) ∧ M2.length = M'.length ∧ ∀ j, (∀ r ∈ rs, j ≠ base + (2 * r + 1)) → M2[j]? = M'[j]?
  | [], M', _, _ => ⟨M', rfl, rfl, fun _ _ => rfl⟩
  | r :: rs, M', h, nd => by
    obtain ⟨n1, n2⟩ := List.nodup_cons.mp nd
    have ne : ∀ s ∈ rs, base + (2 * r + 1) ≠ base + (2 * s + 1) := fun s hs e => n1 (by rw [show r = s by omega]; exact hs)
    obtain ⟨M2, e, l, g⟩ := frz_rows (M' := M') (base := base) rs (M'.set (base + (2 * r + 1)) none) (fun s hs => by
      rw [List.getElem?_set_ne (ne s hs)]
      exact h s (List.mem_cons_of_mem _ hs)) n2
    refine ⟨M2, ?_, by rw [l, List.length_set], fun j hj => ?_⟩
    · rw [List.map_cons]
      unfold frzAll
      have c : cellAt M' (.cel (base + (2 * r + 1))) = some (base + (2 * r + 1), rwC d T r) := by
        simp only [cellAt, h r List.mem_cons_self]
      have dd : dats (rwC d T r) = some ((List.range d).map fun c => PyData.int (T r c)) := by
        have := dats_map ((List.range d).map fun c => PyData.int (T r c))
        rw [List.map_map] at this
        exact this
      rw [c]
      simp only [Option.bind_some, dd, e]
      rfl
    · rw [g j fun s hs => hj s (List.mem_cons_of_mem _ hs), List.getElem?_set_ne (Ne.symm (hj r List.mem_cons_self))]
abbrev tlD (d : Nat) (T : Nat → Nat → Int) : PyData := .list ((List.range d).map fun r => .list ((List.range d).map fun c => .int (T r c)))
theorem tm_frz {ρ ρ1 : Rho} {i : Nat} {s : SS} {M0 : Mem} (hs : s ρ M0 = some (.nx ρ1 (tm M d T))) (hv : ρ1[i]? = some (some (.cel (M.length + 2 * d)))) : ∃ M2, M2.take M.length = M ∧ sFrzD i s ρ M0 = some (.nx (ρ1.set i (some (.dat (tlD d T)))) M2) := by
  obtain ⟨M2, e, l, g⟩ := frz_rows (M' := tm M d T) (T := T) (d := d) (base := M.length) (List.range d) (tm M d T) (fun r hr => tm_row (List.mem_range.mp hr)) List.nodup_range
  have o : M2[M.length + 2 * d]? = some (some (tmO M d)) := by
    rw [g _ fun r hr => by omega]
    exact tm_out
  refine ⟨M2.set (M.length + 2 * d) none, ?_, ?_⟩
  · refine List.ext_getElem? fun j => ?_
    rw [List.getElem?_take]
    split
    · rename_i hj
      rw [List.getElem?_set_ne (by omega), g j fun r _ => by omega]
      unfold tm
      rw [List.append_assoc, List.getElem?_append_left hj]
    · rename_i hj
      rw [List.getElem?_eq_none (by omega)]
  · unfold sFrzD
    rw [hs]
    simp only [Option.bind_some, hv]
    have c1 : cellAt (tm M d T) (.cel (M.length + 2 * d)) = some (M.length + 2 * d, tmO M d) := by simp only [cellAt, tm_out]
    have c2 : cellAt M2 (.cel (M.length + 2 * d)) = some (M.length + 2 * d, tmO M d) := by simp only [cellAt, o]
    rw [c1]
    simp only [Option.bind_some]
    rw [show tmO M d = (List.range d).map fun r => SV.cel (M.length + (2 * r + 1)) from rfl, e]
    simp only [Option.bind_some, c2, if_true]
end
end Sm

/-! SmX18: tuple(range(n)), tuple(range(a, b)). -/
namespace Sm
open PySem PySem.Spec PyProof.Rows L2
section
variable {K : PySem.W.Frag}
def eTr1 (a : SE) : SE := fun ρ M => (a ρ M).bind fun x => (intV x.1).bind fun j => if -(2 ^ 20) ≤ j ∧ j < 2 ^ 20 then some (.dat (.tuple (rangeD 0 j)), x.2) else none
theorem ev_tr1 {ta : TE} {a : SE} (ha : EvS K ta a) : EvS K (tTupRg (tRg1 ta)) (eTr1 a) := by
  intro ρ M z M' h F π G H σ R S Q q
  unfold eTr1 at h
  obtain ⟨⟨x, N1⟩, h1, h⟩ := Option.bind_eq_some_iff.mp h
  obtain ⟨j, c, hh⟩ := Option.bind_eq_some_iff.mp h
  clear h
  dsimp only at h1 c hh
  have e := intV_some c
  subst e
  split at hh
  · rename_i hk
    cases hh
    refine ha ρ M _ _ h1 F π G H σ R S _ fun π1 G1 H1 v1 g1 R1 s1 => ?_
    cases s1 with
    | dat d1 =>
      cases d1
      refine ⟨j, rfl, ⟨by omega, by omega, by omega, by omega, by omega⟩, fun p hp => ?_⟩
      have al : Al G1 H1 (upd G1 p (.tup (rgV 0 j))) (upd H1 p (.tup (rgV 0 j))) := .new hp
      exact q π1 _ _ _ (g1.trans (.of (R1.alSame al))) (R1.al al) (.dat (.tup (SqT.of upd_same) (rg_all 0 j)))
  · cases hh
def eTr2 (a b : SE) : SE := fun ρ M => (a ρ M).bind fun x => (b ρ x.2).bind fun y => (intV x.1).bind fun i => (intV y.1).bind fun j => if (-(2 ^ 20) ≤ i ∧ i < 2 ^ 20) ∧ -(2 ^ 20) ≤ j ∧ j < 2 ^ 20 then some (.dat (.tuple (rangeD i j)), y.2) else none
theorem ev_tr2 {ta tb : TE} {a b : SE} (ha : EvS K ta a) (hb : EvS K tb b) : EvS K (tTupRg (tRg2 ta tb)) (eTr2 a b) := by
  intro ρ M z M' h F π G H σ R S Q q
  unfold eTr2 at h
  obtain ⟨⟨x, N1⟩, h1, h⟩ := Option.bind_eq_some_iff.mp h
  obtain ⟨⟨y, N2⟩, h2, h⟩ := Option.bind_eq_some_iff.mp h
  obtain ⟨i, c, h⟩ := Option.bind_eq_some_iff.mp h
  obtain ⟨j, c2, hh⟩ := Option.bind_eq_some_iff.mp h
  clear h
  dsimp only at h1 h2 c c2 hh
  have e := intV_some c
  have e2 := intV_some c2
  subst e e2
  split at hh
  · rename_i hk
    cases hh
    refine ha ρ M _ _ h1 F π G H σ R S _ fun π1 G1 H1 v1 g1 R1 s1 => ?_
    cases s1 with
    | dat d1 =>
      cases d1
      refine hb ρ N1 _ _ h2 F π1 G1 H1 σ R1 (S.gr g1) _ fun π2 G2 H2 v2 g2 R2 s2 => ?_
      cases s2 with
      | dat d2 =>
        cases d2
        refine ⟨i, j, rfl, rfl, ⟨by omega, by omega, by omega, by omega, by omega⟩, fun p hp => ?_⟩
        have al : Al G2 H2 (upd G2 p (.tup (rgV i j))) (upd H2 p (.tup (rgV i j))) := .new hp
        exact q π2 _ _ _ ((g1.trans g2).trans (.of (R2.alSame al))) (R2.al al) (.dat (.tup (SqT.of upd_same) (rg_all i j)))
  · cases hh
theorem tr1_eq {e : SE} {ρ : Rho} {M M1 : Mem} {j : Int} (he : e ρ M = some (.dat (.int j), M1)) (h1 : -(2 ^ 20) ≤ j) (h2 : j < 2 ^ 20) : eTr1 e ρ M = some (.dat (.tuple (rangeD 0 j)), M1) := by
  unfold eTr1
  rw [he]
  simp only [Option.bind_some, intV]
  rw [if_pos ⟨h1, h2⟩]
theorem tr2_eq {e f : SE} {ρ : Rho} {M M1 M2 : Mem} {i j : Int} (he : e ρ M = some (.dat (.int i), M1)) (hf : f ρ M1 = some (.dat (.int j), M2)) (h1 : -(2 ^ 20) ≤ i) (h2 : i < 2 ^ 20) (h3 : -(2 ^ 20) ≤ j) (h4 : j < 2 ^ 20) : eTr2 e f ρ M = some (.dat (.tuple (rangeD i j)), M2) := by
  unfold eTr2
  rw [he]
  simp only [Option.bind_some]
  rw [hf]
  simp only [Option.bind_some, intV]
  rw [if_pos ⟨⟨h1, h2⟩, h3, h4⟩]
end
end Sm

namespace Lk44
open PySem PySem.Spec PyProof.Rows L2 Sm
/-! ### the text -/
def topS (i : Nat) : Stmt := PySem.Challenge.pw_toldpieces_k44_own_layings_told.main.body.getD i (.Pass ⟨0, 0, 0, 0⟩)
abbrev s_xdraws : Stmt := topS 28
abbrev N_xdraws : List Str := ["_law_script", "_law_cells", "_law_cell"]
theorem sc_xdraws : FnScope N_xdraws ["_law_script"] (defScope s_xdraws) := ⟨rfl, rfl, rfl, by decide +kernel, rfl, by decide +kernel, by decide +kernel⟩
abbrev s_xnext : Stmt := topS 29
abbrev N_xnext : List Str := ["_law_drawn", "_law_many", "_law_cells", "_law_turn", "_law_rests", "_law_spot", "_law_digit", "_law_mixed", "_law_again"]
theorem sc_xnext : FnScope N_xnext ["_law_drawn", "_law_many"] (defScope s_xnext) := ⟨rfl, rfl, rfl, by decide +kernel, rfl, by decide +kernel, by decide +kernel⟩
abbrev s_xone : Stmt := topS 30
abbrev N_xone : List Str := ["_law_drawn", "_law_things"]
theorem sc_xone : FnScope N_xone ["_law_drawn", "_law_things"] (defScope s_xone) := ⟨rfl, rfl, rfl, by decide +kernel, rfl, by decide +kernel, by decide +kernel⟩
abbrev s_xprime : Stmt := topS 31
abbrev N_xprime : List Str := ["_law_drawn", "_law_some", "_law_k", "_law_j"]
theorem sc_xprime : FnScope N_xprime ["_law_drawn"] (defScope s_xprime) := ⟨rfl, rfl, rfl, by decide +kernel, rfl, by decide +kernel, by decide +kernel⟩
abbrev s_xshape : Stmt := topS 32
abbrev N_xshape : List Str := ["_law_drawn", "_law_widest", "_law_d", "_law_k"]
theorem sc_xshape : FnScope N_xshape ["_law_drawn", "_law_widest"] (defScope s_xshape) := ⟨rfl, rfl, rfl, by decide +kernel, rfl, by decide +kernel, by decide +kernel⟩
abbrev s_xxs : Stmt := topS 33
abbrev N_xxs : List Str := ["_law_drawn", "_law_p", "_law_many", "_law_left", "_law_k"]
theorem sc_xxs : FnScope N_xxs ["_law_drawn", "_law_p", "_law_many"] (defScope s_xxs) := ⟨rfl, rfl, rfl, by decide +kernel, rfl, by decide +kernel, by decide +kernel⟩
abbrev s_xhouses : Stmt := topS 42
abbrev N_xhouses : List Str := ["_law_drawn", "_law_p", "_law_d", "_law_many", "_law_way"]
theorem sc_xhouses : FnScope N_xhouses ["_law_drawn", "_law_p", "_law_d"] (defScope s_xhouses) := ⟨rfl, rfl, rfl, by decide +kernel, rfl, by decide +kernel, by decide +kernel⟩
abbrev s_places_many : Stmt := topS 13
abbrev N_places_many : List Str := ["rows", "d"]
theorem sc_places_many : FnScope N_places_many ["rows", "d"] (defScope s_places_many) := ⟨rfl, rfl, rfl, by decide +kernel, rfl, by decide +kernel, by decide +kernel⟩
abbrev s_bound_of : Stmt := topS 24
abbrev N_bound_of : List Str := ["k", "d"]
theorem sc_bound_of : FnScope N_bound_of ["k", "d"] (defScope s_bound_of) := ⟨rfl, rfl, rfl, by decide +kernel, rfl, by decide +kernel, by decide +kernel⟩
abbrev s_powers_of : Stmt := topS 9
abbrev N_powers_of : List Str := ["p", "many", "x", "powers", "power", "at"]
theorem sc_powers_of : FnScope N_powers_of ["p", "many", "x"] (defScope s_powers_of) := ⟨rfl, rfl, rfl, by decide +kernel, rfl, by decide +kernel, by decide +kernel⟩
abbrev s_places_of : Stmt := topS 12
abbrev N_places_of : List Str := ["shape", "p", "k", "d", "dice_rows", "row", "column"]
theorem sc_places_of : FnScope N_places_of ["shape"] (defScope s_places_of) := ⟨rfl, rfl, rfl, by decide +kernel, rfl, by decide +kernel, by decide +kernel⟩
abbrev s_times_kept : Stmt := topS 16
abbrev N_times_kept : List Str := ["powers", "column", "place", "low", "high"]
theorem sc_times_kept : FnScope N_times_kept ["powers", "column", "place"] (defScope s_times_kept) := ⟨rfl, rfl, rfl, by decide +kernel, rfl, by decide +kernel, by decide +kernel⟩
abbrev s_kept_sums : Stmt := topS 15
abbrev N_kept_sums : List Str := ["shape", "x", "p", "k", "d", "dice_rows", "powers", "places", "column", "place"]
theorem sc_kept_sums : FnScope N_kept_sums ["shape", "x"] (defScope s_kept_sums) := ⟨rfl, rfl, rfl, by decide +kernel, rfl, by decide +kernel, by decide +kernel⟩
abbrev s_with_multiple : Stmt := topS 7
abbrev N_with_multiple : List Str := ["p", "row", "other", "factor", "rest", "more"]
theorem sc_with_multiple : FnScope N_with_multiple ["p", "row", "other", "factor"] (defScope s_with_multiple) := ⟨rfl, rfl, rfl, by decide +kernel, rfl, by decide +kernel, by decide +kernel⟩
abbrev s_sums_told : Stmt := topS 26
abbrev N_sums_told : List Str := ["p", "many", "rows", "y", "told", "row", "power"]
theorem sc_sums_told : FnScope N_sums_told ["p", "many", "rows", "y"] (defScope s_sums_told) := ⟨rfl, rfl, rfl, by decide +kernel, rfl, by decide +kernel, by decide +kernel⟩
abbrev s_own_laying : Stmt := topS 25
abbrev N_own_laying : List Str := ["shape", "xs", "p", "k", "d", "dice_rows", "many", "keeps", "tells", "x", "y", "rows", "told"]
theorem sc_own_laying : FnScope N_own_laying ["shape", "xs"] (defScope s_own_laying) := ⟨rfl, rfl, rfl, by decide +kernel, rfl, by decide +kernel, by decide +kernel⟩
abbrev s_xspots : Stmt := topS 35
abbrev N_xspots : List Str := ["_law_shape_here", "_law_found", "_law_row", "_law_column"]
theorem sc_xspots : FnScope N_xspots ["_law_shape_here"] (defScope s_xspots) := ⟨rfl, rfl, rfl, by decide +kernel, rfl, by decide +kernel, by decide +kernel⟩
abbrev s_xpowers : Stmt := topS 36
abbrev N_xpowers : List Str := ["_law_p", "_law_many", "_law_x", "_law_found"]
theorem sc_xpowers : FnScope N_xpowers ["_law_p", "_law_many", "_law_x"] (defScope s_xpowers) := ⟨rfl, rfl, rfl, by decide +kernel, rfl, by decide +kernel, by decide +kernel⟩
abbrev s_xtabled : Stmt := topS 37
abbrev N_xtabled : List Str := ["_law_shape_here", "_law_numbers", "_law_found", "_law_spot", "_law_row", "_law_column"]
theorem sc_xtabled : FnScope N_xtabled ["_law_shape_here", "_law_numbers"] (defScope s_xtabled) := ⟨rfl, rfl, rfl, by decide +kernel, rfl, by decide +kernel, by decide +kernel⟩
abbrev s_xkeeps : Stmt := topS 38
abbrev N_xkeeps : List Str := ["_law_shape_here", "_law_numbers", "_law_x", "_law_rows", "_law_d", "_law_factors", "_law_column", "_law_row"]
theorem sc_xkeeps : FnScope N_xkeeps ["_law_shape_here", "_law_numbers", "_law_x"] (defScope s_xkeeps) := ⟨rfl, rfl, rfl, by decide +kernel, rfl, by decide +kernel, by decide +kernel⟩
abbrev s_xsums : Stmt := topS 39
abbrev N_xsums : List Str := ["_law_shape_here", "_law_x", "_law_many", "_law_some", "_law_spot", "_law_k", "_law_column", "_law_own_here"]
theorem sc_xsums : FnScope N_xsums ["_law_shape_here", "_law_x"] (defScope s_xsums) := ⟨rfl, rfl, rfl, by decide +kernel, rfl, by decide +kernel, by decide +kernel⟩
abbrev s_xmix : Stmt := topS 34
abbrev N_xmix : List Str := ["_law_p", "_law_one_here", "_law_factor", "_law_other", "_law_a", "_law_b"]
theorem sc_xmix : FnScope N_xmix ["_law_p", "_law_one_here", "_law_factor", "_law_other"] (defScope s_xmix) := ⟨rfl, rfl, rfl, by decide +kernel, rfl, by decide +kernel, by decide +kernel⟩
abbrev s_xtold_sum : Stmt := topS 40
abbrev N_xtold_sum : List Str := ["_law_p", "_law_rows", "_law_y", "_law_found", "_law_factor", "_law_row"]
theorem sc_xtold_sum : FnScope N_xtold_sum ["_law_p", "_law_rows", "_law_y"] (defScope s_xtold_sum) := ⟨rfl, rfl, rfl, by decide +kernel, rfl, by decide +kernel, by decide +kernel⟩
abbrev s_xown : Stmt := topS 41
abbrev N_xown : List Str := ["_law_shape_here", "_law_xs_here", "_law_p", "_law_many", "_law_keeps_here", "_law_found", "_law_f", "_law_x", "_law_h", "_law_rows"]
theorem sc_xown : FnScope N_xown ["_law_shape_here", "_law_xs_here"] (defScope s_xown) := ⟨rfl, rfl, rfl, by decide +kernel, rfl, by decide +kernel, by decide +kernel⟩
abbrev s_is_number : Stmt := topS 2
abbrev N_is_number : List Str := ["thing"]
theorem sc_is_number : FnScope N_is_number ["thing"] (defScope s_is_number) := ⟨rfl, rfl, rfl, by decide +kernel, rfl, by decide +kernel, by decide +kernel⟩
abbrev s_is_rest : Stmt := topS 4
abbrev N_is_rest : List Str := ["p", "thing"]
theorem sc_is_rest : FnScope N_is_rest ["p", "thing"] (defScope s_is_rest) := ⟨rfl, rfl, rfl, by decide +kernel, rfl, by decide +kernel, by decide +kernel⟩
abbrev s_is_row : Stmt := topS 5
abbrev N_is_row : List Str := ["p", "many", "thing", "rest"]
theorem sc_is_row : FnScope N_is_row ["p", "many", "thing"] (defScope s_is_row) := ⟨rfl, rfl, rfl, by decide +kernel, rfl, by decide +kernel, by decide +kernel⟩
abbrev s_are_rows : Stmt := topS 6
abbrev N_are_rows : List Str := ["p", "n", "many", "thing", "row"]
theorem sc_are_rows : FnScope N_are_rows ["p", "n", "many", "thing"] (defScope s_are_rows) := ⟨rfl, rfl, rfl, by decide +kernel, rfl, by decide +kernel, by decide +kernel⟩
abbrev s_are_keeps : Stmt := topS 22
abbrev N_are_keeps : List Str := ["p", "many", "thing", "house"]
theorem sc_are_keeps : FnScope N_are_keeps ["p", "many", "thing"] (defScope s_are_keeps) := ⟨rfl, rfl, rfl, by decide +kernel, rfl, by decide +kernel, by decide +kernel⟩
abbrev s_are_tells : Stmt := topS 23
abbrev N_are_tells : List Str := ["p", "many", "houses", "thing", "told"]
theorem sc_are_tells : FnScope N_are_tells ["p", "many", "houses", "thing"] (defScope s_are_tells) := ⟨rfl, rfl, rfl, by decide +kernel, rfl, by decide +kernel, by decide +kernel⟩
abbrev s_is_prime : Stmt := topS 3
abbrev N_is_prime : List Str := ["thing"]
theorem sc_is_prime : FnScope N_is_prime ["thing"] (defScope s_is_prime) := ⟨rfl, rfl, rfl, by decide +kernel, rfl, by decide +kernel, by decide +kernel⟩
abbrev s_is_laying : Stmt := topS 21
abbrev N_is_laying : List Str := ["thing", "p", "many", "keeps", "tells"]
theorem sc_is_laying : FnScope N_is_laying ["thing"] (defScope s_is_laying) := ⟨rfl, rfl, rfl, by decide +kernel, rfl, by decide +kernel, by decide +kernel⟩
abbrev s_law : Stmt := topS 43
abbrev N_law : List Str := ["_law_script", "_law_drawn", "_law_some", "_law_turn", "_law_shape_here", "_law_xs_here", "_law_own_here", "_law_found"]
theorem sc_law : FnScope N_law ["_law_script"] (defScope s_law) := ⟨rfl, rfl, rfl, by decide +kernel, rfl, by decide +kernel, by decide +kernel⟩
/-! ### the plain functions -/
def k_PRIMES : PyData := (.tuple [(.int 11), (.int 13), (.int 17), (.int 19), (.int 23), (.int 29), (.int 31), (.int 37), (.int 41), (.int 43), (.int 47), (.int 53), (.int 59), (.int 61), (.int 67), (.int 71), (.int 73), (.int 79), (.int 83), (.int 89), (.int 97), (.int 101), (.int 103), (.int 107), (.int 109), (.int 113), (.int 127), (.int 131), (.int 137), (.int 139), (.int 149), (.int 151), (.int 157), (.int 163), (.int 167), (.int 173), (.int 179), (.int 181), (.int 191), (.int 193), (.int 197), (.int 199), (.int 211)])
def k_MOST_COLUMNS : PyData := (.int 5)
def k_MOST_HIDDEN : PyData := (.int 24)
def k_FEWEST_HOUSES : PyData := (.int 2)
def k_MOST_HOUSES : PyData := (.int 8)
abbrev B_xdraws_1 : SS :=
  (sAsg (eOp (lift2 dAdd) (eCB (one fList) (aCons (eSl fSl (eVar 0) oNone (oSome (eC (.int 63)))) aNil)) (eFrz (eRepN (eNew (aCons (eC (.int 0)) aNil)) (eCB (one (lift1 dInt)) (aCons (eOp (lift2 dEq) (eCB (one fLen) (aCons (eVar 0) aNil)) (eC (.int 0))) aNil))))) (gNm 1))
abbrev B_xdraws_2 : SS :=
  (sRet (eNew (aCons (eVar 1) (aCons (eC (.int 0)) (aCons (eLcN (iDat (eVar 1)) (gNm 2) bYes (eOp (lift2 dMul) (eVar 2) (eCB (one (lift1 dInt)) (aCons (eOp (lift2 dGe) (eVar 2) (eOp (lift2 dPow) (eC (.int 10)) (eC (.int 18)))) aNil))) [2]) aNil)))))
abbrev B_xdraws : SS :=
  (sSeq B_xdraws_1
    B_xdraws_2)
def F_xdraws : SF := mkF 3 B_xdraws
abbrev B_xnext_1 : SS :=
  (sAsg (eVar 0) (gTpC [2, 3, 4]))
abbrev B_xnext_2 : SS :=
  (sAsg (eOp (lift2 dMod) (eVar 3) (eCB (one fLen) (aCons (eVar 2) aNil))) (gNm 5))
abbrev B_xnext_3 : SS :=
  (sAsg (eOp (lift2 dAdd) (eVar 3) (eC (.int 1))) (gStore (eVar 0) (eC (.int 1))))
abbrev B_xnext_4 : SS :=
  (sIf (bVal (eOp (lift2 dGt) (eOp fIx (eVar 4) (eVar 5)) (eC (.int 0)))) (sSeq (sAsg (eOp (lift2 dMod) (eOp fIx (eVar 4) (eVar 5)) (eVar 1)) (gNm 6))
    (sSeq (sAsg (eOp (lift2 dDiv) (eOp fIx (eVar 4) (eVar 5)) (eVar 1)) (gStore (eVar 4) (eVar 5)))
    (sRet (eVar 6)))) sNext)
abbrev B_xnext_5 : SS :=
  (sAsg (eOp (lift2 dMod) (eOp (lift2 dPow) (eOp (lift2 dAdd) (eOp (lift2 dAdd) (eOp (lift2 dMod) (eOp fIx (eVar 2) (eVar 5)) (eC (.int 2147483629))) (eOp (lift2 dMul) (eC (.int 48271)) (eVar 3))) (eC (.int 7717))) (eC (.int 3))) (eC (.int 2147483587))) (gNm 7))
abbrev B_xnext_6 : SS :=
  (sAsg (eOp (lift2 dMod) (eOp (lift2 dPow) (eOp (lift2 dAdd) (eOp (lift2 dAdd) (eVar 7) (eOp (lift2 dMul) (eOp (lift2 dMul) (eC (.int 6131)) (eVar 3)) (eVar 3))) (eC (.int 29))) (eC (.int 3))) (eC (.int 2147483563))) (gNm 8))
abbrev B_xnext_7 : SS :=
  (sRet (eOp (lift2 dMod) (eOp (lift2 dMod) (eOp (lift2 dAdd) (eOp (lift2 dMul) (eVar 8) (eC (.int 2147483423))) (eVar 7)) (eC (.int 4611686018427387847))) (eVar 1)))
abbrev B_xnext : SS :=
  (sSeq B_xnext_1
    (sSeq B_xnext_2
    (sSeq B_xnext_3
    (sSeq B_xnext_4
    (sSeq B_xnext_5
    (sSeq B_xnext_6
    B_xnext_7))))))
def F_xnext : SF := mkF 9 B_xnext
abbrev B_xone : SS :=
  (sRet (eOp fIx (eVar 1) (eCall F_xnext (aCons (eVar 0) (aCons (eCB (one fLen) (aCons (eVar 1) aNil)) aNil)))))
def F_xone : SF := mkF 2 B_xone
abbrev B_xprime_1 : SS :=
  (sAsg (eLc (iR2 (aCons (eC (.int 11)) (aCons (eC (.int 212)) aNil))) (gNm 2) (bVal (eOp (fIn true) (eC (.int 0)) (eLc (iR2 (aCons (eC (.int 2)) (aCons (eC (.int 15)) aNil))) (gNm 3) (bVal (eOp (lift2 dLt) (eVar 3) (eVar 2))) (eOp (lift2 dMod) (eVar 2) (eVar 3)) [3]))) (eVar 2) [2]) (gNm 1))
abbrev B_xprime_2 : SS :=
  (sRet (eOp fIx (eLst (aCons (eC (.int 11)) (aCons (eC (.int 11)) (aCons (eC (.int 211)) (aCons (eC (.int 13)) (aCons (eCall F_xone (aCons (eVar 0) (aCons (eVar 1) aNil))) aNil)))))) (eCall F_xnext (aCons (eVar 0) (aCons (eC (.int 5)) aNil)))))
abbrev B_xprime : SS :=
  (sSeq B_xprime_1
    B_xprime_2)
def F_xprime : SF := mkF 4 B_xprime
abbrev B_xshape_1 : SS :=
  (sAsg (eOp (lift2 dAdd) (eC (.int 1)) (eCall F_xnext (aCons (eVar 0) (aCons (eVar 1) aNil)))) (gNm 2))
abbrev B_xshape_2 : SS :=
  (sAsg (eOp (lift2 dAdd) (eC (.int 1)) (eCall F_xnext (aCons (eVar 0) (aCons (eVar 2) aNil)))) (gNm 3))
abbrev B_xshape_3 : SS :=
  (sRet (eTup (aCons (eCall F_xprime (aCons (eVar 0) aNil)) (aCons (eVar 3) (aCons (eVar 2) (aCons (eCall F_xnext (aCons (eVar 0) (aCons (eVar 3) aNil))) aNil))))))
abbrev B_xshape : SS :=
  (sSeq B_xshape_1
    (sSeq B_xshape_2
    B_xshape_3))
def F_xshape : SF := mkF 4 B_xshape
abbrev B_xxs_1 : SS :=
  (sAsg (eLrN (eVar 1)) (gNm 3))
abbrev B_xxs_2 : SS :=
  (sFrz 3 (sRet (eCB (one fTuple) (aCons (eCB (one fSorted) (aCons (eLc (iR1 (aCons (eVar 2) aNil)) (gNm 4) bYes (ePop (eVar 3) (eCall F_xnext (aCons (eVar 0) (aCons (eCB (one fLen) (aCons (eVar 3) aNil)) aNil)))) [4]) aNil)) aNil))))
abbrev B_xxs : SS :=
  (sSeq B_xxs_1
    B_xxs_2)
def F_xxs : SF := mkF 5 B_xxs
abbrev B_xhouses_1 : SS :=
  (sAsg (eOp (lift2 dAdd) (eOp (lift2 dAdd) (eVar 2) (eC (.int 1))) (eCall F_xnext (aCons (eVar 0) (aCons (eOp (lift2 dSub) (eC (.int 8)) (eVar 2)) aNil)))) (gNm 3))
abbrev B_xhouses_2 : SS :=
  (sAsg (eCall F_xnext (aCons (eVar 0) (aCons (eC (.int 6)) aNil))) (gNm 4))
abbrev B_xhouses_3 : SS :=
  (sIf (bVal (eOp (lift2 dEq) (eVar 4) (eC (.int 0)))) (sRet (eTr1 (eVar 3))) sNext)
abbrev B_xhouses_4 : SS :=
  (sIf (bVal (eOp (lift2 dEq) (eVar 4) (eC (.int 1)))) (sRet (eTr2 (eOp (lift2 dSub) (eVar 1) (eVar 3)) (eVar 1))) sNext)
abbrev B_xhouses_5 : SS :=
  (sRet (eCall F_xxs (aCons (eVar 0) (aCons (eVar 1) (aCons (eVar 3) aNil)))))
abbrev B_xhouses : SS :=
  (sSeq B_xhouses_1
    (sSeq B_xhouses_2
    (sSeq B_xhouses_3
    (sSeq B_xhouses_4
    B_xhouses_5))))
def F_xhouses : SF := mkF 5 B_xhouses
abbrev B_places_many : SS :=
  (sRet (eOp (lift2 dSub) (eOp (lift2 dMul) (eVar 0) (eVar 1)) (eOp (lift2 dDiv) (eOp (lift2 dMul) (eVar 0) (eOp (lift2 dSub) (eVar 0) (eC (.int 1)))) (eC (.int 2)))))
def F_places_many : SF := mkF 2 B_places_many
abbrev B_bound_of : SS :=
  (sRet (eCall F_places_many (aCons (eVar 0) (aCons (eVar 1) aNil))))
def F_bound_of : SF := mkF 2 B_bound_of
abbrev B_powers_of_1 : SS :=
  (sAsg (eNew aNil) (gNm 3))
abbrev B_powers_of_2 : SS :=
  (sAsg (eC (.int 1)) (gNm 4))
abbrev B_powers_of_3 : SS :=
  (sFrz 3 (sFor (iR1 (aCons (eVar 1) aNil)) (gNm 5) (sSeq (sApp (eVar 3) (eVar 4))
    (sAsg (eOp (lift2 dMod) (eOp (lift2 dMul) (eVar 4) (eVar 2)) (eVar 0)) (gNm 4)))))
abbrev B_powers_of_4 : SS :=
  (sRet (eCB (one fTuple) (aCons (eVar 3) aNil)))
abbrev B_powers_of : SS :=
  (sSeq B_powers_of_1
    (sSeq B_powers_of_2
    (sSeq B_powers_of_3
    B_powers_of_4)))
def F_powers_of : SF := mkF 6 B_powers_of
abbrev B_places_of_1 : SS :=
  (sAsg (eVar 0) (gTp [1, 2, 3, 4]))
abbrev B_places_of_2 : SS :=
  (sRet (eCB (one fTuple) (aCons (eLc2 (iR1 (aCons (eVar 2) aNil)) (gNm 5) bYes (iR2 (aCons (eVar 5) (aCons (eVar 3) aNil))) (gNm 6) bYes (eTup (aCons (eVar 5) (aCons (eVar 6) aNil))) [5, 6] [6]) aNil)))
abbrev B_places_of : SS :=
  (sSeq B_places_of_1
    B_places_of_2)
def F_places_of : SF := mkF 7 B_places_of
abbrev B_times_kept_1 : SS :=
  (sAsg (eVar 2) (gTp [3, 4]))
abbrev B_times_kept_2 : SS :=
  (sIf (bVal (eOp (lift2 dEq) (eVar 1) (eVar 4))) (sRet (eOp fIx (eVar 0) (eVar 3))) sNext)
abbrev B_times_kept_3 : SS :=
  (sRet (eIf (bVal (eOp (lift2 dEq) (eVar 1) (eVar 3))) (eOp fIx (eVar 0) (eVar 4)) (eC (.int 0))))
abbrev B_times_kept : SS :=
  (sSeq B_times_kept_1
    (sSeq B_times_kept_2
    B_times_kept_3))
def F_times_kept : SF := mkF 5 B_times_kept
abbrev B_kept_sums_1 : SS :=
  (sAsg (eVar 0) (gTp [2, 3, 4, 5]))
abbrev B_kept_sums_2 : SS :=
  (sAsg (eCall F_powers_of (aCons (eVar 2) (aCons (eVar 4) (aCons (eVar 1) aNil)))) (gNm 6))
abbrev B_kept_sums_3 : SS :=
  (sAsg (eCall F_places_of (aCons (eVar 0) aNil)) (gNm 7))
abbrev B_kept_sums_4 : SS :=
  (sRet (eCB (one fTuple) (aCons (eLc (iR1 (aCons (eVar 4) aNil)) (gNm 8) bYes (eCB (one fTuple) (aCons (eLc (iDat (eVar 7)) (gNm 9) bYes (eCall F_times_kept (aCons (eVar 6) (aCons (eVar 8) (aCons (eVar 9) aNil)))) [9]) aNil)) [8]) aNil)))
abbrev B_kept_sums : SS :=
  (sSeq B_kept_sums_1
    (sSeq B_kept_sums_2
    (sSeq B_kept_sums_3
    B_kept_sums_4)))
def F_kept_sums : SF := mkF 10 B_kept_sums
abbrev B_with_multiple : SS :=
  (sRet (eLc (iZp (aCons (eVar 1) (aCons (eVar 2) aNil))) (gTp [4, 5]) bYes (eOp (lift2 dMod) (eOp (lift2 dAdd) (eVar 4) (eOp (lift2 dMul) (eVar 3) (eVar 5))) (eVar 0)) [4, 5]))
def F_with_multiple : SF := mkF 6 B_with_multiple
abbrev B_sums_told_1 : SS :=
  (sAsg (eFrz (eRepN (eNew (aCons (eC (.int 0)) aNil)) (eVar 1))) (gNm 4))
abbrev B_sums_told_2 : SS :=
  (sFor (iZp (aCons (eVar 2) (aCons (eCall F_powers_of (aCons (eVar 0) (aCons (eCB (one fLen) (aCons (eVar 2) aNil)) (aCons (eVar 3) aNil)))) aNil))) (gTp [5, 6]) (sAsg (eCall F_with_multiple (aCons (eVar 0) (aCons (eVar 4) (aCons (eVar 5) (aCons (eVar 6) aNil))))) (gNm 4)))
abbrev B_sums_told_3 : SS :=
  (sRet (eCB (one fTuple) (aCons (eVar 4) aNil)))
abbrev B_sums_told : SS :=
  (sSeq B_sums_told_1
    (sSeq B_sums_told_2
    B_sums_told_3))
def F_sums_told : SF := mkF 7 B_sums_told
abbrev B_own_laying_1 : SS :=
  (sAsg (eVar 0) (gTp [2, 3, 4, 5]))
abbrev B_own_laying_2 : SS :=
  (sAsg (eCall F_bound_of (aCons (eVar 3) (aCons (eVar 4) aNil))) (gNm 6))
abbrev B_own_laying_3 : SS :=
  (sAsg (eLc (iDat (eVar 1)) (gNm 9) bYes (eCall F_kept_sums (aCons (eVar 0) (aCons (eVar 9) aNil))) [9]) (gNm 7))
abbrev B_own_laying_4 : SS :=
  (sAsg (eLc (iDat (eVar 1)) (gNm 10) bYes (eLc (iZp (aCons (eVar 1) (aCons (eVar 7) aNil))) (gTp [9, 11]) bYes (eIf (bVal (eOp (lift2 dNe) (eVar 9) (eVar 10))) (eCall F_sums_told (aCons (eVar 2) (aCons (eVar 6) (aCons (eVar 11) (aCons (eVar 10) aNil))))) (eOp (lift2 dMul) (eTup (aCons (eC (.int 0)) aNil)) (eVar 6))) [9, 11]) [10]) (gNm 8))
abbrev B_own_laying_5 : SS :=
  (sRet (eTup (aCons (eVar 2) (aCons (eVar 6) (aCons (eCB (one fTuple) (aCons (eVar 7) aNil)) (aCons (eCB (one fTuple) (aCons (eLc (iDat (eVar 8)) (gNm 12) bYes (eCB (one fTuple) (aCons (eVar 12) aNil)) [12]) aNil)) aNil))))))
abbrev B_own_laying : SS :=
  (sSeq B_own_laying_1
    (sSeq B_own_laying_2
    (sSeq B_own_laying_3
    (sSeq B_own_laying_4
    B_own_laying_5))))
def F_own_laying : SF := mkF 13 B_own_laying
abbrev B_xspots_1 : SS :=
  (sAsg (eNew aNil) (gNm 1))
abbrev B_xspots_2 : SS :=
  (sFrz 1 (sFor (iR1 (aCons (eOp fIx (eVar 0) (eC (.int 1))) aNil)) (gNm 2) (sExt (eVar 1) (eLcN (iR2 (aCons (eVar 2) (aCons (eOp fIx (eVar 0) (eC (.int 2))) aNil))) (gNm 3) bYes (eTup (aCons (eVar 2) (aCons (eVar 3) aNil))) [3]))))
abbrev B_xspots_3 : SS :=
  (sRet (eVar 1))
abbrev B_xspots : SS :=
  (sSeq B_xspots_1
    (sSeq B_xspots_2
    B_xspots_3))
def F_xspots : SF := mkF 4 B_xspots
abbrev B_xpowers_1 : SS :=
  (sAsg (eNew (aCons (eC (.int 1)) aNil)) (gNm 3))
abbrev B_xpowers_2 : SS :=
  (sFrz 3 (whl (bVal (eOp (lift2 dLt) (eCB (one fLen) (aCons (eVar 3) aNil)) (eVar 1))) (sApp (eVar 3) (eOp (lift2 dMod) (eOp (lift2 dMul) (eOp fIx (eVar 3) (eUn (lift1 dNeg) (eC (.int 1)))) (eVar 2)) (eVar 0))) 1000))
abbrev B_xpowers_3 : SS :=
  (sRet (eVar 3))
abbrev B_xpowers : SS :=
  (sSeq B_xpowers_1
    (sSeq B_xpowers_2
    B_xpowers_3))
def F_xpowers : SF := mkF 4 B_xpowers
abbrev B_xtabled_1 : SS :=
  (sAsg (eLcC (iR1 (aCons (eOp fIx (eVar 0) (eC (.int 2))) aNil)) (gNm 4) (eRepN (eNew (aCons (eC (.int 0)) aNil)) (eOp fIx (eVar 0) (eC (.int 2)))) [4]) (gNm 2))
abbrev B_xtabled_2 : SS :=
  (sFrzD 2 (sFor (iEnM (aCons (eCall F_xspots (aCons (eVar 0) aNil)) aNil)) (gPt (.tp [(.nm 3), (.tp [(.nm 4), (.nm 5)])])) (sSeq (sAsg (eOp fIx (eVar 1) (eVar 3)) (gStore (eOp fIx (eVar 2) (eVar 4)) (eVar 5)))
    (sAsg (eOp fIx (eVar 1) (eVar 3)) (gStore (eOp fIx (eVar 2) (eVar 5)) (eVar 4))))))
abbrev B_xtabled_3 : SS :=
  (sRet (eVar 2))
abbrev B_xtabled : SS :=
  (sSeq B_xtabled_1
    (sSeq B_xtabled_2
    B_xtabled_3))
def F_xtabled : SF := mkF 6 B_xtabled
abbrev B_xkeeps_1 : SS :=
  (sAsg (eTup (aCons (eCall F_xtabled (aCons (eVar 0) (aCons (eVar 1) aNil))) (aCons (eOp fIx (eVar 0) (eC (.int 2))) aNil))) (gTp [3, 4]))
abbrev B_xkeeps_2 : SS :=
  (sAsg (eCall F_xpowers (aCons (eOp fIx (eVar 0) (eC (.int 0))) (aCons (eVar 4) (aCons (eVar 2) aNil)))) (gNm 5))
abbrev B_xkeeps_3 : SS :=
  (sRet (eCB (one fTuple) (aCons (eLc (iR1 (aCons (eVar 4) aNil)) (gNm 6) bYes (eOp (lift2 dMod) (eCB (one (lift1 dSumA)) (aCons (eLc (iR1 (aCons (eVar 4) aNil)) (gNm 7) bYes (eOp (lift2 dMul) (eOp fIx (eVar 5) (eVar 7)) (eOp fIx (eOp fIx (eVar 3) (eVar 7)) (eVar 6))) [7]) aNil)) (eOp fIx (eVar 0) (eC (.int 0)))) [6]) aNil)))
abbrev B_xkeeps : SS :=
  (sSeq B_xkeeps_1
    (sSeq B_xkeeps_2
    B_xkeeps_3))
def F_xkeeps : SF := mkF 8 B_xkeeps
abbrev B_xsums_1 : SS :=
  (sAsg (eCB (one fLen) (aCons (eCall F_xspots (aCons (eVar 0) aNil)) aNil)) (gNm 2))
abbrev B_xsums_2 : SS :=
  (sAsg (eLc (iR1 (aCons (eVar 2) aNil)) (gNm 4) bYes (eCall F_xkeeps (aCons (eVar 0) (aCons (eLc (iR1 (aCons (eVar 2) aNil)) (gNm 5) bYes (eCB (one (lift1 dInt)) (aCons (eOp (lift2 dEq) (eVar 5) (eVar 4)) aNil)) [5]) (aCons (eVar 1) aNil)))) [4]) (gNm 3))
abbrev B_xsums_3 : SS :=
  (sRet (eCB (one fTuple) (aCons (eLc (iR1 (aCons (eOp fIx (eVar 0) (eC (.int 2))) aNil)) (gNm 6) bYes (eCB (one fTuple) (aCons (eLc (iDat (eVar 3)) (gNm 7) bYes (eOp fIx (eVar 7) (eVar 6)) [7]) aNil)) [6]) aNil)))
abbrev B_xsums : SS :=
  (sSeq B_xsums_1
    (sSeq B_xsums_2
    B_xsums_3))
def F_xsums : SF := mkF 8 B_xsums
abbrev B_xmix : SS :=
  (sRet (eCB (one fTuple) (aCons (eLc (iZp (aCons (eVar 1) (aCons (eVar 3) aNil))) (gTp [4, 5]) bYes (eOp (lift2 dMod) (eOp (lift2 dAdd) (eVar 4) (eOp (lift2 dMul) (eVar 2) (eVar 5))) (eVar 0)) [4, 5]) aNil)))
def F_xmix : SF := mkF 6 B_xmix
abbrev B_xtold_sum_1 : SS :=
  (sAsg (eOp (lift2 dMul) (eTup (aCons (eC (.int 0)) aNil)) (eCB (one fLen) (aCons (eOp fIx (eVar 1) (eC (.int 0))) aNil))) (gNm 3))
abbrev B_xtold_sum_2 : SS :=
  (sFor (iZp (aCons (eCall F_xpowers (aCons (eVar 0) (aCons (eCB (one fLen) (aCons (eVar 1) aNil)) (aCons (eVar 2) aNil)))) (aCons (eVar 1) aNil))) (gTp [4, 5]) (sAsg (eCall F_xmix (aCons (eVar 0) (aCons (eVar 3) (aCons (eVar 4) (aCons (eVar 5) aNil))))) (gNm 3)))
abbrev B_xtold_sum_3 : SS :=
  (sRet (eVar 3))
abbrev B_xtold_sum : SS :=
  (sSeq B_xtold_sum_1
    (sSeq B_xtold_sum_2
    B_xtold_sum_3))
def F_xtold_sum : SF := mkF 6 B_xtold_sum
abbrev B_xown_1 : SS :=
  (sAsg (eTup (aCons (eOp fIx (eVar 0) (eC (.int 0))) (aCons (eCB (one fLen) (aCons (eCall F_xspots (aCons (eVar 0) aNil)) aNil)) aNil))) (gTp [2, 3]))
abbrev B_xown_2 : SS :=
  (sAsg (eLc (iDat (eVar 1)) (gNm 7) bYes (eCall F_xsums (aCons (eVar 0) (aCons (eVar 7) aNil))) [7]) (gNm 4))
abbrev B_xown_3 : SS :=
  (sAsg (eNew aNil) (gNm 5))
abbrev B_xown_4 : SS :=
  (sFrz 5 (sFor (iEnM (aCons (eVar 1) aNil)) (gTp [6, 7]) (sApp (eVar 5) (eCB (one fTuple) (aCons (eLc (iEnM (aCons (eVar 4) aNil)) (gTp [8, 9]) bYes (eOp fIx (eLst (aCons (eCall F_xtold_sum (aCons (eVar 2) (aCons (eVar 9) (aCons (eVar 7) aNil)))) (aCons (eOp (lift2 dMul) (eTup (aCons (eC (.int 0)) aNil)) (eVar 3)) aNil))) (eCB (one (lift1 dInt)) (aCons (eOp (lift2 dEq) (eVar 8) (eVar 6)) aNil))) [8, 9]) aNil)))))
abbrev B_xown_5 : SS :=
  (sRet (eTup (aCons (eVar 2) (aCons (eVar 3) (aCons (eCB (one fTuple) (aCons (eVar 4) aNil)) (aCons (eCB (one fTuple) (aCons (eVar 5) aNil)) aNil))))))
abbrev B_xown : SS :=
  (sSeq B_xown_1
    (sSeq B_xown_2
    (sSeq B_xown_3
    (sSeq B_xown_4
    B_xown_5))))
def F_xown : SF := mkF 10 B_xown
abbrev B_is_number : SS :=
  (sRet (eAnd (eUn (fIsi "int") (eVar 0)) (eNot (eUn (fIsi "bool") (eVar 0)))))
def F_is_number : SF := mkF 1 B_is_number
abbrev B_is_rest : SS :=
  (sRet (eAnd (eCall F_is_number (aCons (eVar 1) aNil)) (eChain (lift2 dLe) (lift2 dLt) (eC (.int 0)) (eVar 1) (eVar 0))))
def F_is_rest : SF := mkF 2 B_is_rest
abbrev B_is_row_1 : SS :=
  (sIf (bOr (bNot (bVal (eUn (fIsi "tuple") (eVar 2)))) (bVal (eOp (lift2 dNe) (eCB (one fLen) (aCons (eVar 2) aNil)) (eVar 1)))) (sRet (eC (.bool false))) sNext)
abbrev B_is_row_2 : SS :=
  (sRet (eCB (one (lift1 dAll)) (aCons (eLc (iDat (eVar 2)) (gNm 3) bYes (eCall F_is_rest (aCons (eVar 0) (aCons (eVar 3) aNil))) [3]) aNil)))
abbrev B_is_row : SS :=
  (sSeq B_is_row_1
    B_is_row_2)
def F_is_row : SF := mkF 4 B_is_row
abbrev B_are_rows : SS :=
  (sRet (eAnd (eUn (fIsi "tuple") (eVar 3)) (eAnd (eOp (lift2 dEq) (eCB (one fLen) (aCons (eVar 3) aNil)) (eVar 2)) (eCB (one (lift1 dAll)) (aCons (eLc (iDat (eVar 3)) (gNm 4) bYes (eCall F_is_row (aCons (eVar 0) (aCons (eVar 1) (aCons (eVar 4) aNil)))) [4]) aNil)))))
def F_are_rows : SF := mkF 5 B_are_rows
abbrev B_are_keeps_1 : SS :=
  (sIf (bOr (bNot (bVal (eUn (fIsi "tuple") (eVar 2)))) (bNot (bVal (eChain (lift2 dLe) (lift2 dLe) (eC k_FEWEST_HOUSES) (eCB (one fLen) (aCons (eVar 2) aNil)) (eC k_MOST_HOUSES))))) (sRet (eC (.bool false))) sNext)
abbrev B_are_keeps_2 : SS :=
  (sIf (bOr (bNot (bVal (eUn (fIsi "tuple") (eOp fIx (eVar 2) (eC (.int 0)))))) (bNot (bVal (eChain (lift2 dLe) (lift2 dLe) (eC (.int 1)) (eCB (one fLen) (aCons (eOp fIx (eVar 2) (eC (.int 0))) aNil)) (eCB fMin2 (aCons (eC k_MOST_COLUMNS) (aCons (eOp (lift2 dSub) (eCB (one fLen) (aCons (eVar 2) aNil)) (eC (.int 1))) aNil))))))) (sRet (eC (.bool false))) sNext)
abbrev B_are_keeps_3 : SS :=
  (sRet (eCB (one (lift1 dAll)) (aCons (eLc (iDat (eVar 2)) (gNm 3) bYes (eCall F_are_rows (aCons (eVar 0) (aCons (eVar 1) (aCons (eCB (one fLen) (aCons (eOp fIx (eVar 2) (eC (.int 0))) aNil)) (aCons (eVar 3) aNil))))) [3]) aNil)))
abbrev B_are_keeps : SS :=
  (sSeq B_are_keeps_1
    (sSeq B_are_keeps_2
    B_are_keeps_3))
def F_are_keeps : SF := mkF 4 B_are_keeps
abbrev B_are_tells_1 : SS :=
  (sIf (bOr (bNot (bVal (eUn (fIsi "tuple") (eVar 3)))) (bVal (eOp (lift2 dNe) (eCB (one fLen) (aCons (eVar 3) aNil)) (eVar 2)))) (sRet (eC (.bool false))) sNext)
abbrev B_are_tells_2 : SS :=
  (sRet (eCB (one (lift1 dAll)) (aCons (eLc (iDat (eVar 3)) (gNm 4) bYes (eCall F_are_rows (aCons (eVar 0) (aCons (eVar 1) (aCons (eVar 2) (aCons (eVar 4) aNil))))) [4]) aNil)))
abbrev B_are_tells : SS :=
  (sSeq B_are_tells_1
    B_are_tells_2)
def F_are_tells : SF := mkF 5 B_are_tells
abbrev B_is_prime : SS :=
  (sRet (eAnd (eCall F_is_number (aCons (eVar 0) aNil)) (eOp (fIn false) (eVar 0) (eC k_PRIMES))))
def F_is_prime : SF := mkF 1 B_is_prime
abbrev B_is_laying_1 : SS :=
  (sIf (bOr (bNot (bVal (eUn (fIsi "tuple") (eVar 0)))) (bVal (eOp (lift2 dNe) (eCB (one fLen) (aCons (eVar 0) aNil)) (eC (.int 4))))) (sRet (eC (.bool false))) sNext)
abbrev B_is_laying_2 : SS :=
  (sAsg (eVar 0) (gTp [1, 2, 3, 4]))
abbrev B_is_laying_3 : SS :=
  (sIf (bOr (bNot (bVal (eCall F_is_prime (aCons (eVar 1) aNil)))) (bOr (bNot (bVal (eCall F_is_number (aCons (eVar 2) aNil)))) (bNot (bVal (eChain (lift2 dLe) (lift2 dLe) (eC (.int 1)) (eVar 2) (eC k_MOST_HIDDEN)))))) (sRet (eC (.bool false))) sNext)
abbrev B_is_laying_4 : SS :=
  (sRet (eAnd (eCall F_are_keeps (aCons (eVar 1) (aCons (eVar 2) (aCons (eVar 3) aNil)))) (eCall F_are_tells (aCons (eVar 1) (aCons (eVar 2) (aCons (eCB (one fLen) (aCons (eVar 3) aNil)) (aCons (eVar 4) aNil)))))))
abbrev B_is_laying : SS :=
  (sSeq B_is_laying_1
    (sSeq B_is_laying_2
    (sSeq B_is_laying_3
    B_is_laying_4)))
def F_is_laying : SF := mkF 5 B_is_laying
abbrev B_law_1 : SS :=
  (sAsg (eCall F_xdraws (aCons (eVar 0) aNil)) (gNm 1))
abbrev B_law_2 : SS :=
  (sAsg (eNew aNil) (gNm 2))
abbrev B_law_3 : SS :=
  (sFrz 2 (sFor (iR1 (aCons (eC (.int 3)) aNil)) (gNm 3) (sSeq (sAsg (eCall F_xshape (aCons (eVar 1) (aCons (eC (.int 5)) aNil))) (gNm 4))
    (sSeq (sAsg (eCall F_xhouses (aCons (eVar 1) (aCons (eOp fIx (eVar 4) (eC (.int 0))) (aCons (eOp fIx (eVar 4) (eC (.int 2))) aNil)))) (gNm 5))
    (sApp (eVar 2) (eLst (aCons (eVar 4) (aCons (eVar 5) (aCons (eCall F_xown (aCons (eVar 4) (aCons (eVar 5) aNil))) aNil)))))))))
abbrev B_law_4 : SS :=
  (sFor (iDat (eOp (lift2 dAdd) (eVar 2) (eSl fSl (eVar 2) oNone (oSome (eC (.int 1)))))) (gTpL [4, 5, 6]) (sSeq (sAsg (eCall F_own_laying (aCons (eVar 4) (aCons (eVar 5) aNil))) (gNm 7))
    (sIf (bOr (bVal (eOp (lift2 dNe) (eCB (one (lift1 dRepr)) (aCons (eVar 7) aNil)) (eCB (one (lift1 dRepr)) (aCons (eVar 6) aNil)))) (bVal (eOp (lift2 dNotB) (eCall F_is_laying (aCons (eVar 7) aNil)) (eC (.bool true))))) (sRet (eC (.bool false))) sNext)))
abbrev B_law_5 : SS :=
  (sRet (eC (.bool true)))
abbrev B_law : SS :=
  (sSeq B_law_1
    (sSeq B_law_2
    (sSeq B_law_3
    (sSeq B_law_4
    B_law_5))))
def F_law : SF := mkF 8 B_law
/-! ### what the top has left -/
structure Txt (K : PySem.W.Frag) (mg : Str → Option Value) : Type where
  a_xdraws : Addr
  fd_xdraws : FuncData
  u_xdraws : Fun K "_law_draws" "_law_draws" s_xdraws a_xdraws fd_xdraws
  g_xdraws : mg "_law_draws" = some (.ref a_xdraws)
  b_xdraws : Binds K fd_xdraws ["_law_script"] []
  a_xnext : Addr
  fd_xnext : FuncData
  u_xnext : Fun K "_law_next" "_law_next" s_xnext a_xnext fd_xnext
  g_xnext : mg "_law_next" = some (.ref a_xnext)
  b_xnext : Binds K fd_xnext ["_law_drawn", "_law_many"] []
  a_xone : Addr
  fd_xone : FuncData
  u_xone : Fun K "_law_one" "_law_one" s_xone a_xone fd_xone
  g_xone : mg "_law_one" = some (.ref a_xone)
  b_xone : Binds K fd_xone ["_law_drawn", "_law_things"] []
  a_xprime : Addr
  fd_xprime : FuncData
  u_xprime : Fun K "_law_prime" "_law_prime" s_xprime a_xprime fd_xprime
  g_xprime : mg "_law_prime" = some (.ref a_xprime)
  b_xprime : Binds K fd_xprime ["_law_drawn"] []
  a_xshape : Addr
  fd_xshape : FuncData
  u_xshape : Fun K "_law_shape" "_law_shape" s_xshape a_xshape fd_xshape
  g_xshape : mg "_law_shape" = some (.ref a_xshape)
  b_xshape : Binds K fd_xshape ["_law_drawn", "_law_widest"] []
  a_xxs : Addr
  fd_xxs : FuncData
  u_xxs : Fun K "_law_xs" "_law_xs" s_xxs a_xxs fd_xxs
  g_xxs : mg "_law_xs" = some (.ref a_xxs)
  b_xxs : Binds K fd_xxs ["_law_drawn", "_law_p", "_law_many"] []
  a_xhouses : Addr
  fd_xhouses : FuncData
  u_xhouses : Fun K "_law_houses" "_law_houses" s_xhouses a_xhouses fd_xhouses
  g_xhouses : mg "_law_houses" = some (.ref a_xhouses)
  b_xhouses : Binds K fd_xhouses ["_law_drawn", "_law_p", "_law_d"] []
  a_places_many : Addr
  fd_places_many : FuncData
  u_places_many : Fun K "places_many" "places_many" s_places_many a_places_many fd_places_many
  g_places_many : mg "places_many" = some (.ref a_places_many)
  b_places_many : Binds K fd_places_many ["rows", "d"] []
  a_bound_of : Addr
  fd_bound_of : FuncData
  u_bound_of : Fun K "bound_of" "bound_of" s_bound_of a_bound_of fd_bound_of
  g_bound_of : mg "bound_of" = some (.ref a_bound_of)
  b_bound_of : Binds K fd_bound_of ["k", "d"] []
  a_powers_of : Addr
  fd_powers_of : FuncData
  u_powers_of : Fun K "powers_of" "powers_of" s_powers_of a_powers_of fd_powers_of
  g_powers_of : mg "powers_of" = some (.ref a_powers_of)
  b_powers_of : Binds K fd_powers_of ["p", "many", "x"] []
  a_places_of : Addr
  fd_places_of : FuncData
  u_places_of : Fun K "places_of" "places_of" s_places_of a_places_of fd_places_of
  g_places_of : mg "places_of" = some (.ref a_places_of)
  b_places_of : Binds K fd_places_of ["shape"] []
  a_times_kept : Addr
  fd_times_kept : FuncData
  u_times_kept : Fun K "times_kept" "times_kept" s_times_kept a_times_kept fd_times_kept
  g_times_kept : mg "times_kept" = some (.ref a_times_kept)
  b_times_kept : Binds K fd_times_kept ["powers", "column", "place"] []
  a_kept_sums : Addr
  fd_kept_sums : FuncData
  u_kept_sums : Fun K "kept_sums" "kept_sums" s_kept_sums a_kept_sums fd_kept_sums
  g_kept_sums : mg "kept_sums" = some (.ref a_kept_sums)
  b_kept_sums : Binds K fd_kept_sums ["shape", "x"] []
  a_with_multiple : Addr
  fd_with_multiple : FuncData
  u_with_multiple : Fun K "with_multiple" "with_multiple" s_with_multiple a_with_multiple fd_with_multiple
  g_with_multiple : mg "with_multiple" = some (.ref a_with_multiple)
  b_with_multiple : Binds K fd_with_multiple ["p", "row", "other", "factor"] []
  a_sums_told : Addr
  fd_sums_told : FuncData
  u_sums_told : Fun K "sums_told" "sums_told" s_sums_told a_sums_told fd_sums_told
  g_sums_told : mg "sums_told" = some (.ref a_sums_told)
  b_sums_told : Binds K fd_sums_told ["p", "many", "rows", "y"] []
  a_own_laying : Addr
  fd_own_laying : FuncData
  u_own_laying : Fun K "own_laying" "own_laying" s_own_laying a_own_laying fd_own_laying
  g_own_laying : mg "own_laying" = some (.ref a_own_laying)
  b_own_laying : Binds K fd_own_laying ["shape", "xs"] []
  a_xspots : Addr
  fd_xspots : FuncData
  u_xspots : Fun K "_law_spots" "_law_spots" s_xspots a_xspots fd_xspots
  g_xspots : mg "_law_spots" = some (.ref a_xspots)
  b_xspots : Binds K fd_xspots ["_law_shape_here"] []
  a_xpowers : Addr
  fd_xpowers : FuncData
  u_xpowers : Fun K "_law_powers" "_law_powers" s_xpowers a_xpowers fd_xpowers
  g_xpowers : mg "_law_powers" = some (.ref a_xpowers)
  b_xpowers : Binds K fd_xpowers ["_law_p", "_law_many", "_law_x"] []
  a_xtabled : Addr
  fd_xtabled : FuncData
  u_xtabled : Fun K "_law_tabled" "_law_tabled" s_xtabled a_xtabled fd_xtabled
  g_xtabled : mg "_law_tabled" = some (.ref a_xtabled)
  b_xtabled : Binds K fd_xtabled ["_law_shape_here", "_law_numbers"] []
  a_xkeeps : Addr
  fd_xkeeps : FuncData
  u_xkeeps : Fun K "_law_keeps" "_law_keeps" s_xkeeps a_xkeeps fd_xkeeps
  g_xkeeps : mg "_law_keeps" = some (.ref a_xkeeps)
  b_xkeeps : Binds K fd_xkeeps ["_law_shape_here", "_law_numbers", "_law_x"] []
  a_xsums : Addr
  fd_xsums : FuncData
  u_xsums : Fun K "_law_sums" "_law_sums" s_xsums a_xsums fd_xsums
  g_xsums : mg "_law_sums" = some (.ref a_xsums)
  b_xsums : Binds K fd_xsums ["_law_shape_here", "_law_x"] []
  a_xmix : Addr
  fd_xmix : FuncData
  u_xmix : Fun K "_law_mix" "_law_mix" s_xmix a_xmix fd_xmix
  g_xmix : mg "_law_mix" = some (.ref a_xmix)
  b_xmix : Binds K fd_xmix ["_law_p", "_law_one_here", "_law_factor", "_law_other"] []
  a_xtold_sum : Addr
  fd_xtold_sum : FuncData
  u_xtold_sum : Fun K "_law_told_sum" "_law_told_sum" s_xtold_sum a_xtold_sum fd_xtold_sum
  g_xtold_sum : mg "_law_told_sum" = some (.ref a_xtold_sum)
  b_xtold_sum : Binds K fd_xtold_sum ["_law_p", "_law_rows", "_law_y"] []
  a_xown : Addr
  fd_xown : FuncData
  u_xown : Fun K "_law_own" "_law_own" s_xown a_xown fd_xown
  g_xown : mg "_law_own" = some (.ref a_xown)
  b_xown : Binds K fd_xown ["_law_shape_here", "_law_xs_here"] []
  a_is_number : Addr
  fd_is_number : FuncData
  u_is_number : Fun K "is_number" "is_number" s_is_number a_is_number fd_is_number
  g_is_number : mg "is_number" = some (.ref a_is_number)
  b_is_number : Binds K fd_is_number ["thing"] []
  a_is_rest : Addr
  fd_is_rest : FuncData
  u_is_rest : Fun K "is_rest" "is_rest" s_is_rest a_is_rest fd_is_rest
  g_is_rest : mg "is_rest" = some (.ref a_is_rest)
  b_is_rest : Binds K fd_is_rest ["p", "thing"] []
  a_is_row : Addr
  fd_is_row : FuncData
  u_is_row : Fun K "is_row" "is_row" s_is_row a_is_row fd_is_row
  g_is_row : mg "is_row" = some (.ref a_is_row)
  b_is_row : Binds K fd_is_row ["p", "many", "thing"] []
  a_are_rows : Addr
  fd_are_rows : FuncData
  u_are_rows : Fun K "are_rows" "are_rows" s_are_rows a_are_rows fd_are_rows
  g_are_rows : mg "are_rows" = some (.ref a_are_rows)
  b_are_rows : Binds K fd_are_rows ["p", "n", "many", "thing"] []
  a_are_keeps : Addr
  fd_are_keeps : FuncData
  u_are_keeps : Fun K "are_keeps" "are_keeps" s_are_keeps a_are_keeps fd_are_keeps
  g_are_keeps : mg "are_keeps" = some (.ref a_are_keeps)
  b_are_keeps : Binds K fd_are_keeps ["p", "many", "thing"] []
  a_are_tells : Addr
  fd_are_tells : FuncData
  u_are_tells : Fun K "are_tells" "are_tells" s_are_tells a_are_tells fd_are_tells
  g_are_tells : mg "are_tells" = some (.ref a_are_tells)
  b_are_tells : Binds K fd_are_tells ["p", "many", "houses", "thing"] []
  a_is_prime : Addr
  fd_is_prime : FuncData
  u_is_prime : Fun K "is_prime" "is_prime" s_is_prime a_is_prime fd_is_prime
  g_is_prime : mg "is_prime" = some (.ref a_is_prime)
  b_is_prime : Binds K fd_is_prime ["thing"] []
  a_is_laying : Addr
  fd_is_laying : FuncData
  u_is_laying : Fun K "is_laying" "is_laying" s_is_laying a_is_laying fd_is_laying
  g_is_laying : mg "is_laying" = some (.ref a_is_laying)
  b_is_laying : Binds K fd_is_laying ["thing"] []
  a_law : Addr
  fd_law : FuncData
  u_law : Fun K "law" "law" s_law a_law fd_law
  g_law : mg "law" = some (.ref a_law)
  b_law : Binds K fd_law ["_law_script"] []
  m_all : mg "all" = none
  m_bool : mg "bool" = none
  m_enumerate : mg "enumerate" = none
  m_int : mg "int" = none
  m_isinstance : mg "isinstance" = none
  m_len : mg "len" = none
  m_list : mg "list" = none
  m_min : mg "min" = none
  m_range : mg "range" = none
  m_repr : mg "repr" = none
  m_sorted : mg "sorted" = none
  m_sum : mg "sum" = none
  m_tuple : mg "tuple" = none
  m_zip : mg "zip" = none
  v_PRIMES : V
  w_PRIMES : Value
  g_PRIMES : mg "PRIMES" = some w_PRIMES
  r_PRIMES : RelV v_PRIMES w_PRIMES
  d_PRIMES : ∀ G, Dq K G v_PRIMES k_PRIMES
  v_MOST_COLUMNS : V
  w_MOST_COLUMNS : Value
  g_MOST_COLUMNS : mg "MOST_COLUMNS" = some w_MOST_COLUMNS
  r_MOST_COLUMNS : RelV v_MOST_COLUMNS w_MOST_COLUMNS
  d_MOST_COLUMNS : ∀ G, Dq K G v_MOST_COLUMNS k_MOST_COLUMNS
  v_MOST_HIDDEN : V
  w_MOST_HIDDEN : Value
  g_MOST_HIDDEN : mg "MOST_HIDDEN" = some w_MOST_HIDDEN
  r_MOST_HIDDEN : RelV v_MOST_HIDDEN w_MOST_HIDDEN
  d_MOST_HIDDEN : ∀ G, Dq K G v_MOST_HIDDEN k_MOST_HIDDEN
  v_FEWEST_HOUSES : V
  w_FEWEST_HOUSES : Value
  g_FEWEST_HOUSES : mg "FEWEST_HOUSES" = some w_FEWEST_HOUSES
  r_FEWEST_HOUSES : RelV v_FEWEST_HOUSES w_FEWEST_HOUSES
  d_FEWEST_HOUSES : ∀ G, Dq K G v_FEWEST_HOUSES k_FEWEST_HOUSES
  v_MOST_HOUSES : V
  w_MOST_HOUSES : Value
  g_MOST_HOUSES : mg "MOST_HOUSES" = some w_MOST_HOUSES
  r_MOST_HOUSES : RelV v_MOST_HOUSES w_MOST_HOUSES
  d_MOST_HOUSES : ∀ G, Dq K G v_MOST_HOUSES k_MOST_HOUSES
section
variable {P : Program} {w : World} {K : PySem.W.Frag} {mg : Str → Option Value} {base : Heap}
theorem ok_xdraws (T : Txt K mg) : FnG P w K mg base 1 T.a_xdraws T.fd_xdraws ["_law_script"] (spF K 1 F_xdraws) :=
  fn_okG (k := 0) (body := B_xdraws) (N := N_xdraws)
  (et_seq (et_asg (ev_op (ev_cb (ea_cons (ev_sl ev_var ev_oNone (ev_oSome ev_int) ss_sl) ea_nil) (cs_one us_list)) (ev_frz (ev_repN (ev_new (ea_cons ev_int ea_nil)) (ev_cb (ea_cons (ev_op (ev_cb (ea_cons ev_var ea_nil) (cs_one us_len)) ev_int os_eq) ea_nil) (cs_one us_int)))) os_add) eg_name)
    (et_ret (ev_new (ea_cons ev_var (ea_cons ev_int (ea_cons (ev_lcN (ei_sq ev_var) eg_name (gw_name (by decide)) eb_yes (ev_op ev_var (ev_cb (ea_cons (ev_op ev_var (ev_op ev_int ev_int os_pow) os_ge) ea_nil) (cs_one us_int)) os_mul)) ea_nil))))))
  T.u_xdraws sc_xdraws (fun cd A out s H hr hgu =>
  (pss_cons (ps_set (i := 1) sc_xdraws.nd rfl (Or.inl rfl) (pe_op op_addA (pe_callTy call_list1 rfl T.m_list (by decide +kernel) (pa_cons (pe_slice sl_seq (pv 0) po_none (po_some pe_int)) pa_nil)) (pe_op op_rep (pe_lst (pa_cons pe_int pa_nil)) (pe_callTy call_int1' rfl T.m_int (by decide +kernel) (pa_cons (pe_cmpR (op_eqA (room64 hr)) (pe_callB call_len1 rfl T.m_len (by decide +kernel) (pa_cons (pv 0) pa_nil)) pe_int rfl) pa_nil)))))
    (pss_one (ps_ret (pe_lst (pa_cons (pv 1) (pa_cons pe_int (pa_cons (pe_lc (own := [("_law_cell", 2)]) rfl sc_xdraws.nd (pi_sq (pv 1)) (blkOk_by (N := N_xdraws) (sc := defScope s_xdraws) (by decide +kernel)) (fun _ _ _ _ _ => (pg_name (i := 2) sc_xdraws.nd rfl (Or.inl rfl))) (fun _ _ _ _ _ => pts_nil) (fun _ _ _ _ _ => (pe_op op_mulA (pv 2) (pe_callTy call_int1' rfl T.m_int (by decide +kernel) (pa_cons (pe_cmpR op_ge (pv 2) (pe_op op_pow pe_int pe_int) rfl) pa_nil))))) pa_nil))))))))
theorem ok_xnext (T : Txt K mg) : FnG P w K mg base 1 T.a_xnext T.fd_xnext ["_law_drawn", "_law_many"] (spF K 2 F_xnext) :=
  fn_okG (k := 0) (body := B_xnext) (N := N_xnext)
  (et_seq (et_asg ev_var (eg_unl (is := [2, 3, 4]) rfl))
    (et_seq (et_asg (ev_op ev_var (ev_cb (ea_cons ev_var ea_nil) (cs_one us_len)) os_mod) eg_name)
    (et_seq (et_asg (ev_op ev_var ev_int os_add) (eg_store ev_var ev_int))
    (et_seq (et_if (eb_test (ev_op (ev_op ev_var ev_var os_ix) ev_int os_gt)) (et_seq (et_asg (ev_op (ev_op ev_var ev_var os_ix) ev_var os_mod) eg_name)
    (et_seq (et_asg (ev_op (ev_op ev_var ev_var os_ix) ev_var os_div) (eg_store ev_var ev_var))
    (et_ret ev_var))) et_next)
    (et_seq (et_asg (ev_op (ev_op (ev_op (ev_op (ev_op (ev_op ev_var ev_var os_ix) ev_int os_mod) (ev_op ev_int ev_var os_mul) os_add) ev_int os_add) ev_int os_pow) ev_int os_mod) eg_name)
    (et_seq (et_asg (ev_op (ev_op (ev_op (ev_op ev_var (ev_op (ev_op ev_int ev_var os_mul) ev_var os_mul) os_add) ev_int os_add) ev_int os_pow) ev_int os_mod) eg_name)
    (et_ret (ev_op (ev_op (ev_op (ev_op ev_var ev_int os_mul) ev_var os_add) ev_int os_mod) ev_var os_mod))))))))
  T.u_xnext sc_xnext (fun cd A out s H hr hgu =>
  (pss_cons (ps_asg (pv 0) (pg_unl rfl (pgs_cons (pg_name (i := 2) sc_xnext.nd rfl (Or.inl rfl)) (pgs_cons (pg_name (i := 3) sc_xnext.nd rfl (Or.inl rfl)) (pgs_cons (pg_name (i := 4) sc_xnext.nd rfl (Or.inl rfl)) pgs_nil)))))
    (pss_cons (ps_set (i := 5) sc_xnext.nd rfl (Or.inl rfl) (pe_op op_mod (pv 3) (pe_callB call_len1 rfl T.m_len (by decide +kernel) (pa_cons (pv 2) pa_nil))))
    (pss_cons (ps_asg (pe_op op_addA (pv 3) pe_int) (pg_sub (pv 0) pe_int set_list))
    (pss_cons (ps_if (pt_cmpR op_gt (pe_ix ix_seq (pv 4) (pv 5) (fun _ _ => rfl)) pe_int rfl) (pss_cons (ps_set (i := 6) sc_xnext.nd rfl (Or.inl rfl) (pe_op op_mod (pe_ix ix_seq (pv 4) (pv 5) (fun _ _ => rfl)) (pv 1)))
    (pss_cons (ps_asg (pe_op op_fdivW (pe_ix ix_seq (pv 4) (pv 5) (fun _ _ => rfl)) (pv 1)) (pg_sub (pv 4) (pv 5) set_list))
    (pss_one (ps_ret (pv 6))))) pss_nil)
    (pss_cons (ps_set (i := 7) sc_xnext.nd rfl (Or.inl rfl) (pe_op op_mod (pe_op op_pow (pe_op op_addA (pe_op op_addA (pe_op op_mod (pe_ix ix_seq (pv 2) (pv 5) (fun _ _ => rfl)) pe_int) (pe_op op_mulA pe_int (pv 3))) pe_int) pe_int) pe_int))
    (pss_cons (ps_set (i := 8) sc_xnext.nd rfl (Or.inl rfl) (pe_op op_mod (pe_op op_pow (pe_op op_addA (pe_op op_addA (pv 7) (pe_op op_mulA (pe_op op_mulA pe_int (pv 3)) (pv 3))) pe_int) pe_int) pe_int))
    (pss_one (ps_ret (pe_op op_mod (pe_op op_mod (pe_op op_addA (pe_op op_mulA (pv 8) pe_int) (pv 7)) pe_int) (pv 1)))))))))))
theorem ok_xone (T : Txt K mg) : FnG P w K mg base 2 T.a_xone T.fd_xone ["_law_drawn", "_law_things"] (spF K 2 F_xone) :=
  fn_okG (k := 1) (body := B_xone) (N := N_xone)
  (et_ret (ev_op ev_var (ev_call (ea_cons ev_var (ea_cons (ev_cb (ea_cons ev_var ea_nil) (cs_one us_len)) ea_nil)) (na_cons (na_cons na_nil))) os_ix))
  T.u_xone sc_xone (fun cd A out s H hr hgu =>
  (pss_one (ps_ret (pe_ix ix_seq (pv 1) (pe_callG (ok_xnext T) (hr.mono (by decide)) hgu rfl T.g_xnext T.u_xnext.kp T.b_xnext (pa_cons (pv 0) (pa_cons (pe_callB call_len1 rfl T.m_len (by decide +kernel) (pa_cons (pv 1) pa_nil)) pa_nil))) (fun _ _ => rfl)))))
theorem ok_xprime (T : Txt K mg) : FnG P w K mg base 3 T.a_xprime T.fd_xprime ["_law_drawn"] (spF K 1 F_xprime) :=
  fn_okG (k := 2) (body := B_xprime) (N := N_xprime)
  (et_seq (et_asg (ev_lc (ei_r2 (ea_cons ev_int (ea_cons ev_int ea_nil))) eg_name (gw_name (by decide)) (eb_test (ev_op ev_int (ev_lc (ei_r2 (ea_cons ev_int (ea_cons ev_int ea_nil))) eg_name (gw_name (by decide)) (eb_test (ev_op ev_var ev_var os_lt)) (ev_op ev_var ev_var os_mod)) os_in)) ev_var) eg_name)
    (et_ret (ev_op (ev_lst (ea_cons ev_int (ea_cons ev_int (ea_cons ev_int (ea_cons ev_int (ea_cons (ev_call (ea_cons ev_var (ea_cons ev_var ea_nil)) (na_cons (na_cons na_nil))) ea_nil)))))) (ev_call (ea_cons ev_var (ea_cons ev_int ea_nil)) (na_cons (na_cons na_nil))) os_ix)))
  T.u_xprime sc_xprime (fun cd A out s H hr hgu =>
  (pss_cons (ps_setLc (i := 1) (own := [("_law_k", 2)]) rfl sc_xprime.nd rfl rfl (sw_true rfl rfl rfl (by decide +kernel)) (pi_range2 rfl T.m_range (pa_cons pe_int (pa_cons pe_int pa_nil))) (blkOk_by (N := N_xprime) (sc := defScope s_xprime) (by decide +kernel)) (fun _ _ _ _ _ => (pg_name (i := 2) sc_xprime.nd rfl (Or.inr rfl))) (fun _ _ _ _ _ => (pts_one (pt_cmpR op_notIn_seq pe_int (pe_lc (own := [("_law_j", 3)]) rfl sc_xprime.nd (pi_range2 rfl T.m_range (pa_cons pe_int (pa_cons pe_int pa_nil))) (blkOk_by (N := N_xprime) (by kernel_rfl)) (fun _ _ _ _ _ => (pg_name (i := 3) sc_xprime.nd rfl (Or.inl rfl))) (fun _ _ _ _ _ => (pts_one (pt_cmpR op_lt (pv 3) (pv 2) rfl))) (fun _ _ _ _ _ => (pe_op op_mod (pv 2) (pv 3)))) rfl))) (fun _ _ _ _ _ => (pv 2)))
    (pss_one (ps_ret (pe_ix ix_seq (pe_lst (pa_cons pe_int (pa_cons pe_int (pa_cons pe_int (pa_cons pe_int (pa_cons (pe_callG (ok_xone T) (hr.mono (by decide)) hgu rfl T.g_xone T.u_xone.kp T.b_xone (pa_cons (pv 0) (pa_cons (pv 1) pa_nil))) pa_nil)))))) (pe_callG (ok_xnext T) (hr.mono (by decide)) hgu rfl T.g_xnext T.u_xnext.kp T.b_xnext (pa_cons (pv 0) (pa_cons pe_int pa_nil))) (fun _ _ => rfl))))))
theorem ok_xshape (T : Txt K mg) : FnG P w K mg base 4 T.a_xshape T.fd_xshape ["_law_drawn", "_law_widest"] (spF K 2 F_xshape) :=
  fn_okG (k := 3) (body := B_xshape) (N := N_xshape)
  (et_seq (et_asg (ev_op ev_int (ev_call (ea_cons ev_var (ea_cons ev_var ea_nil)) (na_cons (na_cons na_nil))) os_add) eg_name)
    (et_seq (et_asg (ev_op ev_int (ev_call (ea_cons ev_var (ea_cons ev_var ea_nil)) (na_cons (na_cons na_nil))) os_add) eg_name)
    (et_ret (ev_tup (ea_cons (ev_call (ea_cons ev_var ea_nil) (na_cons na_nil)) (ea_cons ev_var (ea_cons ev_var (ea_cons (ev_call (ea_cons ev_var (ea_cons ev_var ea_nil)) (na_cons (na_cons na_nil))) ea_nil))))))))
  T.u_xshape sc_xshape (fun cd A out s H hr hgu =>
  (pss_cons (ps_set (i := 2) sc_xshape.nd rfl (Or.inl rfl) (pe_op op_addA pe_int (pe_callG (ok_xnext T) (hr.mono (by decide)) hgu rfl T.g_xnext T.u_xnext.kp T.b_xnext (pa_cons (pv 0) (pa_cons (pv 1) pa_nil)))))
    (pss_cons (ps_set (i := 3) sc_xshape.nd rfl (Or.inl rfl) (pe_op op_addA pe_int (pe_callG (ok_xnext T) (hr.mono (by decide)) hgu rfl T.g_xnext T.u_xnext.kp T.b_xnext (pa_cons (pv 0) (pa_cons (pv 2) pa_nil)))))
    (pss_one (ps_ret (pe_tup (pa_cons (pe_callG (ok_xprime T) (hr.mono (by decide)) hgu rfl T.g_xprime T.u_xprime.kp T.b_xprime (pa_cons (pv 0) pa_nil)) (pa_cons (pv 3) (pa_cons (pv 2) (pa_cons (pe_callG (ok_xnext T) (hr.mono (by decide)) hgu rfl T.g_xnext T.u_xnext.kp T.b_xnext (pa_cons (pv 0) (pa_cons (pv 3) pa_nil))) pa_nil))))))))))
theorem ok_xxs (T : Txt K mg) : FnG P w K mg base 2 T.a_xxs T.fd_xxs ["_law_drawn", "_law_p", "_law_many"] (spF K 3 F_xxs) :=
  fn_okG (k := 1) (body := B_xxs) (N := N_xxs)
  (et_seq (et_asg (ev_lrN ev_var) eg_name)
    (et_frz (et_ret (ev_cb (ea_cons (ev_cb (ea_cons (ev_lc (ei_r1 (ea_cons ev_var ea_nil)) eg_name (gw_name (by decide)) eb_yes (ev_pop ev_var (ev_call (ea_cons ev_var (ea_cons (ev_cb (ea_cons ev_var ea_nil) (cs_one us_len)) ea_nil)) (na_cons (na_cons na_nil))))) ea_nil) (cs_one us_sorted)) ea_nil) (cs_one us_tuple)))))
  T.u_xxs sc_xxs (fun cd A out s H hr hgu =>
  (pss_cons (ps_set (i := 3) sc_xxs.nd rfl (Or.inr rfl) (pe_listRg rfl rfl T.m_list (prg_1 rfl T.m_range (pv 1))))
    (pss_one (ps_ret (pe_callTy call_tuple1 rfl T.m_tuple (by decide +kernel) (pa_cons (pe_callB call_sorted1 rfl T.m_sorted (by decide +kernel) (pa_cons (pe_lc (own := [("_law_k", 4)]) rfl sc_xxs.nd (pi_range1 rfl T.m_range (pa_cons (pv 2) pa_nil)) (blkOk_by (N := N_xxs) (sc := defScope s_xxs) (by decide +kernel)) (fun _ _ _ _ _ => (pg_name (i := 4) sc_xxs.nd rfl (Or.inl rfl))) (fun _ _ _ _ _ => pts_nil) (fun _ _ _ _ _ => (pe_bm PySem.F.plainAttrs_list PySem.F.slot_list_pop PySem.F.type_list_pop mt_popAt (pv 3) (pa_cons (pe_callG (ok_xnext T) (hr.mono (by decide)) hgu rfl T.g_xnext T.u_xnext.kp T.b_xnext (pa_cons (pv 0) (pa_cons (pe_callB call_len1 rfl T.m_len (by decide +kernel) (pa_cons (pv 3) pa_nil)) pa_nil))) pa_nil)))) pa_nil)) pa_nil))))))
theorem ok_xhouses (T : Txt K mg) : FnG P w K mg base 3 T.a_xhouses T.fd_xhouses ["_law_drawn", "_law_p", "_law_d"] (spF K 3 F_xhouses) :=
  fn_okG (k := 2) (body := B_xhouses) (N := N_xhouses)
  (et_seq (et_asg (ev_op (ev_op ev_var ev_int os_add) (ev_call (ea_cons ev_var (ea_cons (ev_op ev_int ev_var os_sub) ea_nil)) (na_cons (na_cons na_nil))) os_add) eg_name)
    (et_seq (et_asg (ev_call (ea_cons ev_var (ea_cons ev_int ea_nil)) (na_cons (na_cons na_nil))) eg_name)
    (et_seq (et_if (eb_test (ev_op ev_var ev_int os_eq)) (et_ret (ev_tr1 ev_var)) et_next)
    (et_seq (et_if (eb_test (ev_op ev_var ev_int os_eq)) (et_ret (ev_tr2 (ev_op ev_var ev_var os_sub) ev_var)) et_next)
    (et_ret (ev_call (ea_cons ev_var (ea_cons ev_var (ea_cons ev_var ea_nil))) (na_cons (na_cons (na_cons na_nil)))))))))
  T.u_xhouses sc_xhouses (fun cd A out s H hr hgu =>
  (pss_cons (ps_set (i := 3) sc_xhouses.nd rfl (Or.inl rfl) (pe_op op_addA (pe_op op_addA (pv 2) pe_int) (pe_callG (ok_xnext T) (hr.mono (by decide)) hgu rfl T.g_xnext T.u_xnext.kp T.b_xnext (pa_cons (pv 0) (pa_cons (pe_op op_sub pe_int (pv 2)) pa_nil)))))
    (pss_cons (ps_set (i := 4) sc_xhouses.nd rfl (Or.inl rfl) (pe_callG (ok_xnext T) (hr.mono (by decide)) hgu rfl T.g_xnext T.u_xnext.kp T.b_xnext (pa_cons (pv 0) (pa_cons pe_int pa_nil))))
    (pss_cons (ps_if (pt_cmpR (op_eqA (room64 hr)) (pv 4) pe_int rfl) (pss_one (ps_ret (pe_tupRg rfl rfl T.m_tuple (prg_1 rfl T.m_range (pv 3))))) pss_nil)
    (pss_cons (ps_if (pt_cmpR (op_eqA (room64 hr)) (pv 4) pe_int rfl) (pss_one (ps_ret (pe_tupRg rfl rfl T.m_tuple (prg_2 rfl T.m_range (pe_op op_sub (pv 1) (pv 3)) (pv 1))))) pss_nil)
    (pss_one (ps_ret (pe_callG (ok_xxs T) (hr.mono (by decide)) hgu rfl T.g_xxs T.u_xxs.kp T.b_xxs (pa_cons (pv 0) (pa_cons (pv 1) (pa_cons (pv 3) pa_nil)))))))))))
theorem ok_places_many (T : Txt K mg) : FnG P w K mg base 1 T.a_places_many T.fd_places_many ["rows", "d"] (spF K 2 F_places_many) :=
  fn_okG (k := 0) (body := B_places_many) (N := N_places_many)
  (et_ret (ev_op (ev_op ev_var ev_var os_mul) (ev_op (ev_op ev_var (ev_op ev_var ev_int os_sub) os_mul) ev_int os_div) os_sub))
  T.u_places_many sc_places_many (fun cd A out s H hr hgu =>
  (pss_one (ps_ret (pe_op op_sub (pe_op op_mulA (pv 0) (pv 1)) (pe_op op_fdivW (pe_op op_mulA (pv 0) (pe_op op_sub (pv 0) pe_int)) pe_int)))))
theorem ok_bound_of (T : Txt K mg) : FnG P w K mg base 2 T.a_bound_of T.fd_bound_of ["k", "d"] (spF K 2 F_bound_of) :=
  fn_okG (k := 1) (body := B_bound_of) (N := N_bound_of)
  (et_ret (ev_call (ea_cons ev_var (ea_cons ev_var ea_nil)) (na_cons (na_cons na_nil))))
  T.u_bound_of sc_bound_of (fun cd A out s H hr hgu =>
  (pss_one (ps_ret (pe_callG (ok_places_many T) (hr.mono (by decide)) hgu rfl T.g_places_many T.u_places_many.kp T.b_places_many (pa_cons (pv 0) (pa_cons (pv 1) pa_nil))))))
theorem ok_powers_of (T : Txt K mg) : FnG P w K mg base 1 T.a_powers_of T.fd_powers_of ["p", "many", "x"] (spF K 3 F_powers_of) :=
  fn_okG (k := 0) (body := B_powers_of) (N := N_powers_of)
  (et_seq (et_asg (ev_new ea_nil) eg_name)
    (et_seq (et_asg ev_int eg_name)
    (et_seq (et_frz (et_for (ei_r1 (ea_cons ev_var ea_nil)) eg_name (et_seq (et_app ev_var ev_var)
    (et_asg (ev_op (ev_op ev_var ev_var os_mul) ev_var os_mod) eg_name))))
    (et_ret (ev_cb (ea_cons ev_var ea_nil) (cs_one us_tuple))))))
  T.u_powers_of sc_powers_of (fun cd A out s H hr hgu =>
  (pss_cons (ps_set (i := 3) sc_powers_of.nd rfl (Or.inl rfl) (pe_lst pa_nil))
    (pss_cons (ps_set (i := 4) sc_powers_of.nd rfl (Or.inl rfl) pe_int)
    (pss_cons (ps_for PassesOwn.never rfl (pi_range1 rfl T.m_range (pa_cons (pv 1) pa_nil)) (pg_name (i := 5) sc_powers_of.nd rfl (Or.inl rfl)) (pss_cons (ps_expr (pe_bm PySem.F.plainAttrs_list PySem.F.slot_list_append PySem.F.type_list_append mt_append (pv 3) (pa_cons (pv 4) pa_nil)))
    (pss_one (ps_set (i := 4) sc_powers_of.nd rfl (Or.inl rfl) (pe_op op_mod (pe_op op_mulA (pv 4) (pv 2)) (pv 0))))))
    (pss_one (ps_ret (pe_callTy call_tuple1 rfl T.m_tuple (by decide +kernel) (pa_cons (pv 3) pa_nil))))))))
theorem ok_places_of (T : Txt K mg) : FnG P w K mg base 1 T.a_places_of T.fd_places_of ["shape"] (spF K 1 F_places_of) :=
  fn_okG (k := 0) (body := B_places_of) (N := N_places_of)
  (et_seq (et_asg ev_var (eg_tup (is := [1, 2, 3, 4]) rfl))
    (et_ret (ev_cb (ea_cons (ev_lc2 (ei_r1 (ea_cons ev_var ea_nil)) eg_name (gw_name (by decide)) eb_yes (ei_r2 (ea_cons ev_var (ea_cons ev_var ea_nil))) eg_name (gw_name (by decide)) eb_yes (ev_tup (ea_cons ev_var (ea_cons ev_var ea_nil)))) ea_nil) (cs_one us_tuple))))
  T.u_places_of sc_places_of (fun cd A out s H hr hgu =>
  (pss_cons (ps_asg (pv 0) (pg_tup rfl (pgs_cons (pg_name (i := 1) sc_places_of.nd rfl (Or.inl rfl)) (pgs_cons (pg_name (i := 2) sc_places_of.nd rfl (Or.inl rfl)) (pgs_cons (pg_name (i := 3) sc_places_of.nd rfl (Or.inr rfl)) (pgs_cons (pg_name (i := 4) sc_places_of.nd rfl (Or.inl rfl)) pgs_nil))))))
    (pss_one (ps_ret (pe_callTy call_tuple1 rfl T.m_tuple (by decide +kernel) (pa_cons (pe_lc2 (own := [("row", 5), ("column", 6)]) (vs1 := [6]) rfl sc_places_of.nd (pi_range1 rfl T.m_range (pa_cons (pv 2) pa_nil)) (blkOk_by (N := N_places_of) (sc := defScope s_places_of) (by decide +kernel)) (by decide) (fun _ _ _ _ _ => (pg_name (i := 5) sc_places_of.nd rfl (Or.inl rfl))) (fun _ _ _ _ _ => pts_nil) (fun _ _ _ _ _ => (pi_range2 rfl T.m_range (pa_cons (pv 5) (pa_cons (pv 3) pa_nil)))) (fun _ _ _ _ _ => (pg_name (i := 6) sc_places_of.nd rfl (Or.inl rfl))) (fun _ _ _ _ _ => pts_nil) (fun _ _ _ _ _ => (pe_tup (pa_cons (pv 5) (pa_cons (pv 6) pa_nil))))) pa_nil))))))
theorem ok_times_kept (T : Txt K mg) : FnG P w K mg base 1 T.a_times_kept T.fd_times_kept ["powers", "column", "place"] (spF K 3 F_times_kept) :=
  fn_okG (k := 0) (body := B_times_kept) (N := N_times_kept)
  (et_seq (et_asg ev_var (eg_tup (is := [3, 4]) rfl))
    (et_seq (et_if (eb_test (ev_op ev_var ev_var os_eq)) (et_ret (ev_op ev_var ev_var os_ix)) et_next)
    (et_ret (ev_if (eb_test (ev_op ev_var ev_var os_eq)) (ev_op ev_var ev_var os_ix) ev_int))))
  T.u_times_kept sc_times_kept (fun cd A out s H hr hgu =>
  (pss_cons (ps_asg (pv 2) (pg_tup rfl (pgs_cons (pg_name (i := 3) sc_times_kept.nd rfl (Or.inl rfl)) (pgs_cons (pg_name (i := 4) sc_times_kept.nd rfl (Or.inl rfl)) pgs_nil))))
    (pss_cons (ps_if (pt_cmpR (op_eqA (room64 hr)) (pv 1) (pv 4) rfl) (pss_one (ps_ret (pe_ix ix_seq (pv 0) (pv 3) (fun _ _ => rfl)))) pss_nil)
    (pss_one (ps_ret (pe_ifExp (pt_cmpR (op_eqA (room64 hr)) (pv 1) (pv 3) rfl) (pe_ix ix_seq (pv 0) (pv 4) (fun _ _ => rfl)) pe_int))))))
theorem ok_kept_sums (T : Txt K mg) : FnG P w K mg base 2 T.a_kept_sums T.fd_kept_sums ["shape", "x"] (spF K 2 F_kept_sums) :=
  fn_okG (k := 1) (body := B_kept_sums) (N := N_kept_sums)
  (et_seq (et_asg ev_var (eg_tup (is := [2, 3, 4, 5]) rfl))
    (et_seq (et_asg (ev_call (ea_cons ev_var (ea_cons ev_var (ea_cons ev_var ea_nil))) (na_cons (na_cons (na_cons na_nil)))) eg_name)
    (et_seq (et_asg (ev_call (ea_cons ev_var ea_nil) (na_cons na_nil)) eg_name)
    (et_ret (ev_cb (ea_cons (ev_lc (ei_r1 (ea_cons ev_var ea_nil)) eg_name (gw_name (by decide)) eb_yes (ev_cb (ea_cons (ev_lc (ei_sq ev_var) eg_name (gw_name (by decide)) eb_yes (ev_call (ea_cons ev_var (ea_cons ev_var (ea_cons ev_var ea_nil))) (na_cons (na_cons (na_cons na_nil))))) ea_nil) (cs_one us_tuple))) ea_nil) (cs_one us_tuple))))))
  T.u_kept_sums sc_kept_sums (fun cd A out s H hr hgu =>
  (pss_cons (ps_asg (pv 0) (pg_tup rfl (pgs_cons (pg_name (i := 2) sc_kept_sums.nd rfl (Or.inl rfl)) (pgs_cons (pg_name (i := 3) sc_kept_sums.nd rfl (Or.inl rfl)) (pgs_cons (pg_name (i := 4) sc_kept_sums.nd rfl (Or.inl rfl)) (pgs_cons (pg_name (i := 5) sc_kept_sums.nd rfl (Or.inl rfl)) pgs_nil))))))
    (pss_cons (ps_set (i := 6) sc_kept_sums.nd rfl (Or.inr rfl) (pe_callG (ok_powers_of T) (hr.mono (by decide)) hgu rfl T.g_powers_of T.u_powers_of.kp T.b_powers_of (pa_cons (pv 2) (pa_cons (pv 4) (pa_cons (pv 1) pa_nil)))))
    (pss_cons (ps_set (i := 7) sc_kept_sums.nd rfl (Or.inr rfl) (pe_callG (ok_places_of T) (hr.mono (by decide)) hgu rfl T.g_places_of T.u_places_of.kp T.b_places_of (pa_cons (pv 0) pa_nil)))
    (pss_one (ps_ret (pe_callTy call_tuple1 rfl T.m_tuple (by decide +kernel) (pa_cons (pe_lc (own := [("column", 8)]) rfl sc_kept_sums.nd (pi_range1 rfl T.m_range (pa_cons (pv 4) pa_nil)) (blkOk_by (N := N_kept_sums) (sc := defScope s_kept_sums) (by decide +kernel)) (fun _ _ _ _ _ => (pg_name (i := 8) sc_kept_sums.nd rfl (Or.inr rfl))) (fun _ _ _ _ _ => pts_nil) (fun _ _ _ _ _ => (pe_callTy call_tuple1 rfl T.m_tuple (by decide +kernel) (pa_cons (pe_lc (own := [("place", 9)]) rfl sc_kept_sums.nd (pi_sq (pv 7)) (blkOk_by (N := N_kept_sums) (by kernel_rfl)) (fun _ _ _ _ _ => (pg_name (i := 9) sc_kept_sums.nd rfl (Or.inl rfl))) (fun _ _ _ _ _ => pts_nil) (fun _ _ _ _ _ => (pe_callG (ok_times_kept T) (hr.mono (by decide)) hgu rfl T.g_times_kept T.u_times_kept.kp T.b_times_kept (pa_cons (pv 6) (pa_cons (pv 8) (pa_cons (pv 9) pa_nil)))))) pa_nil)))) pa_nil))))))))
theorem ok_with_multiple (T : Txt K mg) : FnG P w K mg base 1 T.a_with_multiple T.fd_with_multiple ["p", "row", "other", "factor"] (spF K 4 F_with_multiple) :=
  fn_okG (k := 0) (body := B_with_multiple) (N := N_with_multiple)
  (et_ret (ev_lc (ei_zp (ea_cons ev_var (ea_cons ev_var ea_nil))) (eg_tup (is := [4, 5]) rfl) (gw_tup (by decide)) eb_yes (ev_op (ev_op ev_var (ev_op ev_var ev_var os_mul) os_add) ev_var os_mod)))
  T.u_with_multiple sc_with_multiple (fun cd A out s H hr hgu =>
  (pss_one (ps_ret (pe_lc (own := [("rest", 4), ("more", 5)]) rfl sc_with_multiple.nd (pi_zipM rfl T.m_zip (pa_cons (pv 1) (pa_cons (pv 2) pa_nil))) (blkOk_by (N := N_with_multiple) (sc := defScope s_with_multiple) (by decide +kernel)) (fun _ _ _ _ _ => (pg_tup rfl (pgs_cons (pg_name (i := 4) sc_with_multiple.nd rfl (Or.inl rfl)) (pgs_cons (pg_name (i := 5) sc_with_multiple.nd rfl (Or.inl rfl)) pgs_nil)))) (fun _ _ _ _ _ => pts_nil) (fun _ _ _ _ _ => (pe_op op_mod (pe_op op_addA (pv 4) (pe_op op_mulA (pv 3) (pv 5))) (pv 0)))))))
theorem ok_sums_told (T : Txt K mg) : FnG P w K mg base 2 T.a_sums_told T.fd_sums_told ["p", "many", "rows", "y"] (spF K 4 F_sums_told) :=
  fn_okG (k := 1) (body := B_sums_told) (N := N_sums_told)
  (et_seq (et_asg (ev_frz (ev_repN (ev_new (ea_cons ev_int ea_nil)) ev_var)) eg_name)
    (et_seq (et_for (ei_zp (ea_cons ev_var (ea_cons (ev_call (ea_cons ev_var (ea_cons (ev_cb (ea_cons ev_var ea_nil) (cs_one us_len)) (ea_cons ev_var ea_nil))) (na_cons (na_cons (na_cons na_nil)))) ea_nil))) (eg_tup (is := [5, 6]) rfl) (et_asg (ev_call (ea_cons ev_var (ea_cons ev_var (ea_cons ev_var (ea_cons ev_var ea_nil)))) (na_cons (na_cons (na_cons (na_cons na_nil))))) eg_name))
    (et_ret (ev_cb (ea_cons ev_var ea_nil) (cs_one us_tuple)))))
  T.u_sums_told sc_sums_told (fun cd A out s H hr hgu =>
  (pss_cons (ps_set (i := 4) sc_sums_told.nd rfl (Or.inl rfl) (pe_op op_rep (pe_lst (pa_cons pe_int pa_nil)) (pv 1)))
    (pss_cons (ps_for PassesOwn.never rfl (pi_zipM rfl T.m_zip (pa_cons (pv 2) (pa_cons (pe_callG (ok_powers_of T) (hr.mono (by decide)) hgu rfl T.g_powers_of T.u_powers_of.kp T.b_powers_of (pa_cons (pv 0) (pa_cons (pe_callB call_len1 rfl T.m_len (by decide +kernel) (pa_cons (pv 2) pa_nil)) (pa_cons (pv 3) pa_nil)))) pa_nil))) (pg_tup rfl (pgs_cons (pg_name (i := 5) sc_sums_told.nd rfl (Or.inl rfl)) (pgs_cons (pg_name (i := 6) sc_sums_told.nd rfl (Or.inl rfl)) pgs_nil))) (pss_one (ps_set (i := 4) sc_sums_told.nd rfl (Or.inl rfl) (pe_callG (ok_with_multiple T) (hr.mono (by decide)) hgu rfl T.g_with_multiple T.u_with_multiple.kp T.b_with_multiple (pa_cons (pv 0) (pa_cons (pv 4) (pa_cons (pv 5) (pa_cons (pv 6) pa_nil))))))))
    (pss_one (ps_ret (pe_callTy call_tuple1 rfl T.m_tuple (by decide +kernel) (pa_cons (pv 4) pa_nil)))))))
theorem ok_own_laying (T : Txt K mg) : FnG P w K mg base 3 T.a_own_laying T.fd_own_laying ["shape", "xs"] (spF K 2 F_own_laying) :=
  fn_okG (k := 2) (body := B_own_laying) (N := N_own_laying)
  (et_seq (et_asg ev_var (eg_tup (is := [2, 3, 4, 5]) rfl))
    (et_seq (et_asg (ev_call (ea_cons ev_var (ea_cons ev_var ea_nil)) (na_cons (na_cons na_nil))) eg_name)
    (et_seq (et_asg (ev_lc (ei_sq ev_var) eg_name (gw_name (by decide)) eb_yes (ev_call (ea_cons ev_var (ea_cons ev_var ea_nil)) (na_cons (na_cons na_nil)))) eg_name)
    (et_seq (et_asg (ev_lc (ei_sq ev_var) eg_name (gw_name (by decide)) eb_yes (ev_lc (ei_zp (ea_cons ev_var (ea_cons ev_var ea_nil))) (eg_tup (is := [9, 11]) rfl) (gw_tup (by decide)) eb_yes (ev_if (eb_test (ev_op ev_var ev_var os_ne)) (ev_call (ea_cons ev_var (ea_cons ev_var (ea_cons ev_var (ea_cons ev_var ea_nil)))) (na_cons (na_cons (na_cons (na_cons na_nil))))) (ev_op (ev_tup (ea_cons ev_int ea_nil)) ev_var os_mul)))) eg_name)
    (et_ret (ev_tup (ea_cons ev_var (ea_cons ev_var (ea_cons (ev_cb (ea_cons ev_var ea_nil) (cs_one us_tuple)) (ea_cons (ev_cb (ea_cons (ev_lc (ei_sq ev_var) eg_name (gw_name (by decide)) eb_yes (ev_cb (ea_cons ev_var ea_nil) (cs_one us_tuple))) ea_nil) (cs_one us_tuple)) ea_nil))))))))))
  T.u_own_laying sc_own_laying (fun cd A out s H hr hgu =>
  (pss_cons (ps_asg (pv 0) (pg_tup rfl (pgs_cons (pg_name (i := 2) sc_own_laying.nd rfl (Or.inr rfl)) (pgs_cons (pg_name (i := 3) sc_own_laying.nd rfl (Or.inl rfl)) (pgs_cons (pg_name (i := 4) sc_own_laying.nd rfl (Or.inl rfl)) (pgs_cons (pg_name (i := 5) sc_own_laying.nd rfl (Or.inl rfl)) pgs_nil))))))
    (pss_cons (ps_set (i := 6) sc_own_laying.nd rfl (Or.inr rfl) (pe_callG (ok_bound_of T) (hr.mono (by decide)) hgu rfl T.g_bound_of T.u_bound_of.kp T.b_bound_of (pa_cons (pv 3) (pa_cons (pv 4) pa_nil))))
    (pss_cons (ps_set (i := 7) sc_own_laying.nd rfl (Or.inr rfl) (pe_lc (own := [("x", 9)]) rfl sc_own_laying.nd (pi_sq (pv 1)) (blkOk_by (N := N_own_laying) (sc := defScope s_own_laying) (by decide +kernel)) (fun _ _ _ _ _ => (pg_name (i := 9) sc_own_laying.nd rfl (Or.inl rfl))) (fun _ _ _ _ _ => pts_nil) (fun _ _ _ _ _ => (pe_callG (ok_kept_sums T) (hr.mono (by decide)) hgu rfl T.g_kept_sums T.u_kept_sums.kp T.b_kept_sums (pa_cons (pv 0) (pa_cons (pv 9) pa_nil))))))
    (pss_cons (ps_setLc (i := 8) (own := [("y", 10)]) rfl sc_own_laying.nd rfl rfl (sw_true rfl rfl rfl (by decide +kernel)) (pi_sq (pv 1)) (blkOk_by (N := N_own_laying) (sc := defScope s_own_laying) (by decide +kernel)) (fun _ _ _ _ _ => (pg_name (i := 10) sc_own_laying.nd rfl (Or.inr rfl))) (fun _ _ _ _ _ => pts_nil) (fun _ _ _ _ _ => (pe_lc (own := [("x", 9), ("rows", 11)]) rfl sc_own_laying.nd (pi_zipM rfl T.m_zip (pa_cons (pv 1) (pa_cons (pv 7) pa_nil))) (blkOk_by (N := N_own_laying) (by kernel_rfl)) (fun _ _ _ _ _ => (pg_tup rfl (pgs_cons (pg_name (i := 9) sc_own_laying.nd rfl (Or.inl rfl)) (pgs_cons (pg_name (i := 11) sc_own_laying.nd rfl (Or.inl rfl)) pgs_nil)))) (fun _ _ _ _ _ => pts_nil) (fun _ _ _ _ _ => (pe_ifExp (pt_cmpR (op_neA (room64 hr)) (pv 9) (pv 10) rfl) (pe_callG (ok_sums_told T) (hr.mono (by decide)) hgu rfl T.g_sums_told T.u_sums_told.kp T.b_sums_told (pa_cons (pv 2) (pa_cons (pv 6) (pa_cons (pv 11) (pa_cons (pv 10) pa_nil))))) (pe_op op_mulA (pe_tup (pa_cons pe_int pa_nil)) (pv 6)))))))
    (pss_one (ps_ret (pe_tup (pa_cons (pv 2) (pa_cons (pv 6) (pa_cons (pe_callTy call_tuple1 rfl T.m_tuple (by decide +kernel) (pa_cons (pv 7) pa_nil)) (pa_cons (pe_callTy call_tuple1 rfl T.m_tuple (by decide +kernel) (pa_cons (pe_lc (own := [("told", 12)]) rfl sc_own_laying.nd (pi_sq (pv 8)) (blkOk_by (N := N_own_laying) (sc := defScope s_own_laying) (by decide +kernel)) (fun _ _ _ _ _ => (pg_name (i := 12) sc_own_laying.nd rfl (Or.inl rfl))) (fun _ _ _ _ _ => pts_nil) (fun _ _ _ _ _ => (pe_callTy call_tuple1 rfl T.m_tuple (by decide +kernel) (pa_cons (pv 12) pa_nil)))) pa_nil)) pa_nil))))))))))))
theorem ok_xspots (T : Txt K mg) : FnG P w K mg base 1 T.a_xspots T.fd_xspots ["_law_shape_here"] (spF K 1 F_xspots) :=
  fn_okG (k := 0) (body := B_xspots) (N := N_xspots)
  (et_seq (et_asg (ev_new ea_nil) eg_name)
    (et_seq (et_frz (et_for (ei_r1 (ea_cons (ev_op ev_var ev_int os_ix) ea_nil)) eg_name (et_ext ev_var (ev_lcN (ei_r2 (ea_cons ev_var (ea_cons (ev_op ev_var ev_int os_ix) ea_nil))) eg_name (gw_name (by decide)) eb_yes (ev_tup (ea_cons ev_var (ea_cons ev_var ea_nil)))))))
    (et_ret ev_var)))
  T.u_xspots sc_xspots (fun cd A out s H hr hgu =>
  (pss_cons (ps_set (i := 1) sc_xspots.nd rfl (Or.inl rfl) (pe_lst pa_nil))
    (pss_cons (ps_for PassesOwn.never rfl (pi_range1 rfl T.m_range (pa_cons (pe_ix ix_seq (pv 0) pe_int (fun _ _ => rfl)) pa_nil)) (pg_name (i := 2) sc_xspots.nd rfl (Or.inr rfl)) (pss_one (ps_expr (pe_bm PySem.F.plainAttrs_list PySem.F.slot_list_extend PySem.F.type_list_extend mt_extend (pv 1) (pa_cons (pe_lc (own := [("_law_column", 3)]) rfl sc_xspots.nd (pi_range2 rfl T.m_range (pa_cons (pv 2) (pa_cons (pe_ix ix_seq (pv 0) pe_int (fun _ _ => rfl)) pa_nil))) (blkOk_by (N := N_xspots) (sc := defScope s_xspots) (by decide +kernel)) (fun _ _ _ _ _ => (pg_name (i := 3) sc_xspots.nd rfl (Or.inl rfl))) (fun _ _ _ _ _ => pts_nil) (fun _ _ _ _ _ => (pe_tup (pa_cons (pv 2) (pa_cons (pv 3) pa_nil))))) pa_nil)))))
    (pss_one (ps_ret (pv 1))))))
theorem ok_xpowers (T : Txt K mg) : FnG P w K mg base 1 T.a_xpowers T.fd_xpowers ["_law_p", "_law_many", "_law_x"] (spF K 3 F_xpowers) :=
  fn_okG (k := 0) (body := B_xpowers) (N := N_xpowers)
  (et_seq (et_asg (ev_new (ea_cons ev_int ea_nil)) eg_name)
    (et_seq (et_frz (et_while (eb_test (ev_op (ev_cb (ea_cons ev_var ea_nil) (cs_one us_len)) ev_var os_lt)) (et_app ev_var (ev_op (ev_op (ev_op ev_var (ev_un ev_int us_neg) os_ix) ev_var os_mul) ev_var os_mod))))
    (et_ret ev_var)))
  T.u_xpowers sc_xpowers (fun cd A out s H hr hgu =>
  (pss_cons (ps_set (i := 3) sc_xpowers.nd rfl (Or.inl rfl) (pe_lst (pa_cons pe_int pa_nil)))
    (pss_cons (ps_while PassesOwn.never (pt_cmpR op_lt (pe_callB call_len1 rfl T.m_len (by decide +kernel) (pa_cons (pv 3) pa_nil)) (pv 1) rfl) (pss_one (ps_expr (pe_bm PySem.F.plainAttrs_list PySem.F.slot_list_append PySem.F.type_list_append mt_append (pv 3) (pa_cons (pe_op op_mod (pe_op op_mulA (pe_ix ix_seq (pv 3) (pe_un un_neg pe_int) (fun _ _ => rfl)) (pv 2)) (pv 0)) pa_nil)))))
    (pss_one (ps_ret (pv 3))))))
theorem ok_xtabled (T : Txt K mg) : FnG P w K mg base 2 T.a_xtabled T.fd_xtabled ["_law_shape_here", "_law_numbers"] (spF K 2 F_xtabled) :=
  fn_okG (k := 1) (body := B_xtabled) (N := N_xtabled)
  (et_seq (et_asg (ev_lcC (ei_r1 (ea_cons (ev_op ev_var ev_int os_ix) ea_nil)) eg_name (gw_name (by decide)) (ev_repN (ev_new (ea_cons ev_int ea_nil)) (ev_op ev_var ev_int os_ix))) eg_name)
    (et_seq (et_frzD (et_for (ei_enM (ea_cons (ev_call (ea_cons ev_var ea_nil) (na_cons na_nil)) ea_nil)) (eg_pat (p := (.tp [(.nm 3), (.tp [(.nm 4), (.nm 5)])]))) (et_seq (et_asg (ev_op ev_var ev_var os_ix) (eg_store (ev_op ev_var ev_var os_ix) ev_var))
    (et_asg (ev_op ev_var ev_var os_ix) (eg_store (ev_op ev_var ev_var os_ix) ev_var)))))
    (et_ret ev_var)))
  T.u_xtabled sc_xtabled (fun cd A out s H hr hgu =>
  (pss_cons (ps_setLc (i := 2) (own := [("_law_row", 4)]) rfl sc_xtabled.nd rfl rfl (sw_true rfl rfl rfl (by decide +kernel)) (pi_range1 rfl T.m_range (pa_cons (pe_ix ix_seq (pv 0) pe_int (fun _ _ => rfl)) pa_nil)) (blkOk_by (N := N_xtabled) (sc := defScope s_xtabled) (by decide +kernel)) (fun _ _ _ _ _ => (pg_name (i := 4) sc_xtabled.nd rfl (Or.inl rfl))) (fun _ _ _ _ _ => pts_nil) (fun _ _ _ _ _ => (pe_op op_rep (pe_lst (pa_cons pe_int pa_nil)) (pe_ix ix_seq (pv 0) pe_int (fun _ _ => rfl)))))
    (pss_cons (ps_for PassesOwn.never rfl (pi_enumM rfl T.m_enumerate (pa_cons (pe_callG (ok_xspots T) (hr.mono (by decide)) hgu rfl T.g_xspots T.u_xspots.kp T.b_xspots (pa_cons (pv 0) pa_nil)) pa_nil)) (pg_tup rfl (pgs_cons (pg_name (i := 3) sc_xtabled.nd rfl (Or.inl rfl)) (pgs_cons (pg_tup rfl (pgs_cons (pg_name (i := 4) sc_xtabled.nd rfl (Or.inl rfl)) (pgs_cons (pg_name (i := 5) sc_xtabled.nd rfl (Or.inl rfl)) pgs_nil))) pgs_nil))) (pss_cons (ps_asg (pe_ix ix_seq (pv 1) (pv 3) (fun _ _ => rfl)) (pg_sub (pe_ix ix_seq (pv 2) (pv 4) (fun _ _ => rfl)) (pv 5) set_list))
    (pss_one (ps_asg (pe_ix ix_seq (pv 1) (pv 3) (fun _ _ => rfl)) (pg_sub (pe_ix ix_seq (pv 2) (pv 5) (fun _ _ => rfl)) (pv 4) set_list)))))
    (pss_one (ps_ret (pv 2))))))
theorem ok_xkeeps (T : Txt K mg) : FnG P w K mg base 3 T.a_xkeeps T.fd_xkeeps ["_law_shape_here", "_law_numbers", "_law_x"] (spF K 3 F_xkeeps) :=
  fn_okG (k := 2) (body := B_xkeeps) (N := N_xkeeps)
  (et_seq (et_asg (ev_tup (ea_cons (ev_call (ea_cons ev_var (ea_cons ev_var ea_nil)) (na_cons (na_cons na_nil))) (ea_cons (ev_op ev_var ev_int os_ix) ea_nil))) (eg_tup (is := [3, 4]) rfl))
    (et_seq (et_asg (ev_call (ea_cons (ev_op ev_var ev_int os_ix) (ea_cons ev_var (ea_cons ev_var ea_nil))) (na_cons (na_cons (na_cons na_nil)))) eg_name)
    (et_ret (ev_cb (ea_cons (ev_lc (ei_r1 (ea_cons ev_var ea_nil)) eg_name (gw_name (by decide)) eb_yes (ev_op (ev_cb (ea_cons (ev_lc (ei_r1 (ea_cons ev_var ea_nil)) eg_name (gw_name (by decide)) eb_yes (ev_op (ev_op ev_var ev_var os_ix) (ev_op (ev_op ev_var ev_var os_ix) ev_var os_ix) os_mul)) ea_nil) (cs_one us_sumA)) (ev_op ev_var ev_int os_ix) os_mod)) ea_nil) (cs_one us_tuple)))))
  T.u_xkeeps sc_xkeeps (fun cd A out s H hr hgu =>
  (pss_cons (ps_asg (pe_tup (pa_cons (pe_callG (ok_xtabled T) (hr.mono (by decide)) hgu rfl T.g_xtabled T.u_xtabled.kp T.b_xtabled (pa_cons (pv 0) (pa_cons (pv 1) pa_nil))) (pa_cons (pe_ix ix_seq (pv 0) pe_int (fun _ _ => rfl)) pa_nil))) (pg_tup rfl (pgs_cons (pg_name (i := 3) sc_xkeeps.nd rfl (Or.inr rfl)) (pgs_cons (pg_name (i := 4) sc_xkeeps.nd rfl (Or.inr rfl)) pgs_nil))))
    (pss_cons (ps_set (i := 5) sc_xkeeps.nd rfl (Or.inr rfl) (pe_callG (ok_xpowers T) (hr.mono (by decide)) hgu rfl T.g_xpowers T.u_xpowers.kp T.b_xpowers (pa_cons (pe_ix ix_seq (pv 0) pe_int (fun _ _ => rfl)) (pa_cons (pv 4) (pa_cons (pv 2) pa_nil)))))
    (pss_one (ps_ret (pe_callTy call_tuple1 rfl T.m_tuple (by decide +kernel) (pa_cons (pe_lc (own := [("_law_column", 6)]) rfl sc_xkeeps.nd (pi_range1 rfl T.m_range (pa_cons (pv 4) pa_nil)) (blkOk_by (N := N_xkeeps) (sc := defScope s_xkeeps) (by decide +kernel)) (fun _ _ _ _ _ => (pg_name (i := 6) sc_xkeeps.nd rfl (Or.inr rfl))) (fun _ _ _ _ _ => pts_nil) (fun _ _ _ _ _ => (pe_op op_mod (pe_callB (call_sumA rfl) rfl T.m_sum (by decide +kernel) (pa_cons (pe_lc (own := [("_law_row", 7)]) rfl sc_xkeeps.nd (pi_range1 rfl T.m_range (pa_cons (pv 4) pa_nil)) (blkOk_by (N := N_xkeeps) (by kernel_rfl)) (fun _ _ _ _ _ => (pg_name (i := 7) sc_xkeeps.nd rfl (Or.inl rfl))) (fun _ _ _ _ _ => pts_nil) (fun _ _ _ _ _ => (pe_op op_mulA (pe_ix ix_seq (pv 5) (pv 7) (fun _ _ => rfl)) (pe_ix ix_seq (pe_ix ix_seq (pv 3) (pv 7) (fun _ _ => rfl)) (pv 6) (fun _ _ => rfl))))) pa_nil)) (pe_ix ix_seq (pv 0) pe_int (fun _ _ => rfl))))) pa_nil)))))))
theorem ok_xsums (T : Txt K mg) : FnG P w K mg base 4 T.a_xsums T.fd_xsums ["_law_shape_here", "_law_x"] (spF K 2 F_xsums) :=
  fn_okG (k := 3) (body := B_xsums) (N := N_xsums)
  (et_seq (et_asg (ev_cb (ea_cons (ev_call (ea_cons ev_var ea_nil) (na_cons na_nil)) ea_nil) (cs_one us_len)) eg_name)
    (et_seq (et_asg (ev_lc (ei_r1 (ea_cons ev_var ea_nil)) eg_name (gw_name (by decide)) eb_yes (ev_call (ea_cons ev_var (ea_cons (ev_lc (ei_r1 (ea_cons ev_var ea_nil)) eg_name (gw_name (by decide)) eb_yes (ev_cb (ea_cons (ev_op ev_var ev_var os_eq) ea_nil) (cs_one us_int))) (ea_cons ev_var ea_nil))) (na_cons (na_cons (na_cons na_nil))))) eg_name)
    (et_ret (ev_cb (ea_cons (ev_lc (ei_r1 (ea_cons (ev_op ev_var ev_int os_ix) ea_nil)) eg_name (gw_name (by decide)) eb_yes (ev_cb (ea_cons (ev_lc (ei_sq ev_var) eg_name (gw_name (by decide)) eb_yes (ev_op ev_var ev_var os_ix)) ea_nil) (cs_one us_tuple))) ea_nil) (cs_one us_tuple)))))
  T.u_xsums sc_xsums (fun cd A out s H hr hgu =>
  (pss_cons (ps_set (i := 2) sc_xsums.nd rfl (Or.inr rfl) (pe_callB call_len1 rfl T.m_len (by decide +kernel) (pa_cons (pe_callG (ok_xspots T) (hr.mono (by decide)) hgu rfl T.g_xspots T.u_xspots.kp T.b_xspots (pa_cons (pv 0) pa_nil)) pa_nil)))
    (pss_cons (ps_set (i := 3) sc_xsums.nd rfl (Or.inr rfl) (pe_lc (own := [("_law_spot", 4)]) rfl sc_xsums.nd (pi_range1 rfl T.m_range (pa_cons (pv 2) pa_nil)) (blkOk_by (N := N_xsums) (sc := defScope s_xsums) (by decide +kernel)) (fun _ _ _ _ _ => (pg_name (i := 4) sc_xsums.nd rfl (Or.inr rfl))) (fun _ _ _ _ _ => pts_nil) (fun _ _ _ _ _ => (pe_callG (ok_xkeeps T) (hr.mono (by decide)) hgu rfl T.g_xkeeps T.u_xkeeps.kp T.b_xkeeps (pa_cons (pv 0) (pa_cons (pe_lc (own := [("_law_k", 5)]) rfl sc_xsums.nd (pi_range1 rfl T.m_range (pa_cons (pv 2) pa_nil)) (blkOk_by (N := N_xsums) (by kernel_rfl)) (fun _ _ _ _ _ => (pg_name (i := 5) sc_xsums.nd rfl (Or.inl rfl))) (fun _ _ _ _ _ => pts_nil) (fun _ _ _ _ _ => (pe_callTy call_int1' rfl T.m_int (by decide +kernel) (pa_cons (pe_cmpR (op_eqA (room64 hr)) (pv 5) (pv 4) rfl) pa_nil)))) (pa_cons (pv 1) pa_nil)))))))
    (pss_one (ps_ret (pe_callTy call_tuple1 rfl T.m_tuple (by decide +kernel) (pa_cons (pe_lc (own := [("_law_column", 6)]) rfl sc_xsums.nd (pi_range1 rfl T.m_range (pa_cons (pe_ix ix_seq (pv 0) pe_int (fun _ _ => rfl)) pa_nil)) (blkOk_by (N := N_xsums) (sc := defScope s_xsums) (by decide +kernel)) (fun _ _ _ _ _ => (pg_name (i := 6) sc_xsums.nd rfl (Or.inr rfl))) (fun _ _ _ _ _ => pts_nil) (fun _ _ _ _ _ => (pe_callTy call_tuple1 rfl T.m_tuple (by decide +kernel) (pa_cons (pe_lc (own := [("_law_own_here", 7)]) rfl sc_xsums.nd (pi_sq (pv 3)) (blkOk_by (N := N_xsums) (by kernel_rfl)) (fun _ _ _ _ _ => (pg_name (i := 7) sc_xsums.nd rfl (Or.inl rfl))) (fun _ _ _ _ _ => pts_nil) (fun _ _ _ _ _ => (pe_ix ix_seq (pv 7) (pv 6) (fun _ _ => rfl)))) pa_nil)))) pa_nil)))))))
theorem ok_xmix (T : Txt K mg) : FnG P w K mg base 1 T.a_xmix T.fd_xmix ["_law_p", "_law_one_here", "_law_factor", "_law_other"] (spF K 4 F_xmix) :=
  fn_okG (k := 0) (body := B_xmix) (N := N_xmix)
  (et_ret (ev_cb (ea_cons (ev_lc (ei_zp (ea_cons ev_var (ea_cons ev_var ea_nil))) (eg_tup (is := [4, 5]) rfl) (gw_tup (by decide)) eb_yes (ev_op (ev_op ev_var (ev_op ev_var ev_var os_mul) os_add) ev_var os_mod)) ea_nil) (cs_one us_tuple)))
  T.u_xmix sc_xmix (fun cd A out s H hr hgu =>
  (pss_one (ps_ret (pe_callTy call_tuple1 rfl T.m_tuple (by decide +kernel) (pa_cons (pe_lc (own := [("_law_a", 4), ("_law_b", 5)]) rfl sc_xmix.nd (pi_zipM rfl T.m_zip (pa_cons (pv 1) (pa_cons (pv 3) pa_nil))) (blkOk_by (N := N_xmix) (sc := defScope s_xmix) (by decide +kernel)) (fun _ _ _ _ _ => (pg_tup rfl (pgs_cons (pg_name (i := 4) sc_xmix.nd rfl (Or.inl rfl)) (pgs_cons (pg_name (i := 5) sc_xmix.nd rfl (Or.inl rfl)) pgs_nil)))) (fun _ _ _ _ _ => pts_nil) (fun _ _ _ _ _ => (pe_op op_mod (pe_op op_addA (pv 4) (pe_op op_mulA (pv 2) (pv 5))) (pv 0)))) pa_nil)))))
theorem ok_xtold_sum (T : Txt K mg) : FnG P w K mg base 2 T.a_xtold_sum T.fd_xtold_sum ["_law_p", "_law_rows", "_law_y"] (spF K 3 F_xtold_sum) :=
  fn_okG (k := 1) (body := B_xtold_sum) (N := N_xtold_sum)
  (et_seq (et_asg (ev_op (ev_tup (ea_cons ev_int ea_nil)) (ev_cb (ea_cons (ev_op ev_var ev_int os_ix) ea_nil) (cs_one us_len)) os_mul) eg_name)
    (et_seq (et_for (ei_zp (ea_cons (ev_call (ea_cons ev_var (ea_cons (ev_cb (ea_cons ev_var ea_nil) (cs_one us_len)) (ea_cons ev_var ea_nil))) (na_cons (na_cons (na_cons na_nil)))) (ea_cons ev_var ea_nil))) (eg_tup (is := [4, 5]) rfl) (et_asg (ev_call (ea_cons ev_var (ea_cons ev_var (ea_cons ev_var (ea_cons ev_var ea_nil)))) (na_cons (na_cons (na_cons (na_cons na_nil))))) eg_name))
    (et_ret ev_var)))
  T.u_xtold_sum sc_xtold_sum (fun cd A out s H hr hgu =>
  (pss_cons (ps_set (i := 3) sc_xtold_sum.nd rfl (Or.inl rfl) (pe_op op_mulA (pe_tup (pa_cons pe_int pa_nil)) (pe_callB call_len1 rfl T.m_len (by decide +kernel) (pa_cons (pe_ix ix_seq (pv 1) pe_int (fun _ _ => rfl)) pa_nil))))
    (pss_cons (ps_for PassesOwn.never rfl (pi_zipM rfl T.m_zip (pa_cons (pe_callG (ok_xpowers T) (hr.mono (by decide)) hgu rfl T.g_xpowers T.u_xpowers.kp T.b_xpowers (pa_cons (pv 0) (pa_cons (pe_callB call_len1 rfl T.m_len (by decide +kernel) (pa_cons (pv 1) pa_nil)) (pa_cons (pv 2) pa_nil)))) (pa_cons (pv 1) pa_nil))) (pg_tup rfl (pgs_cons (pg_name (i := 4) sc_xtold_sum.nd rfl (Or.inl rfl)) (pgs_cons (pg_name (i := 5) sc_xtold_sum.nd rfl (Or.inl rfl)) pgs_nil))) (pss_one (ps_set (i := 3) sc_xtold_sum.nd rfl (Or.inl rfl) (pe_callG (ok_xmix T) (hr.mono (by decide)) hgu rfl T.g_xmix T.u_xmix.kp T.b_xmix (pa_cons (pv 0) (pa_cons (pv 3) (pa_cons (pv 4) (pa_cons (pv 5) pa_nil))))))))
    (pss_one (ps_ret (pv 3))))))
theorem ok_xown (T : Txt K mg) : FnG P w K mg base 5 T.a_xown T.fd_xown ["_law_shape_here", "_law_xs_here"] (spF K 2 F_xown) :=
  fn_okG (k := 4) (body := B_xown) (N := N_xown)
  (et_seq (et_asg (ev_tup (ea_cons (ev_op ev_var ev_int os_ix) (ea_cons (ev_cb (ea_cons (ev_call (ea_cons ev_var ea_nil) (na_cons na_nil)) ea_nil) (cs_one us_len)) ea_nil))) (eg_tup (is := [2, 3]) rfl))
    (et_seq (et_asg (ev_lc (ei_sq ev_var) eg_name (gw_name (by decide)) eb_yes (ev_call (ea_cons ev_var (ea_cons ev_var ea_nil)) (na_cons (na_cons na_nil)))) eg_name)
    (et_seq (et_asg (ev_new ea_nil) eg_name)
    (et_seq (et_frz (et_for (ei_enM (ea_cons ev_var ea_nil)) (eg_tup (is := [6, 7]) rfl) (et_app ev_var (ev_cb (ea_cons (ev_lc (ei_enM (ea_cons ev_var ea_nil)) (eg_tup (is := [8, 9]) rfl) (gw_tup (by decide)) eb_yes (ev_op (ev_lst (ea_cons (ev_call (ea_cons ev_var (ea_cons ev_var (ea_cons ev_var ea_nil))) (na_cons (na_cons (na_cons na_nil)))) (ea_cons (ev_op (ev_tup (ea_cons ev_int ea_nil)) ev_var os_mul) ea_nil))) (ev_cb (ea_cons (ev_op ev_var ev_var os_eq) ea_nil) (cs_one us_int)) os_ix)) ea_nil) (cs_one us_tuple)))))
    (et_ret (ev_tup (ea_cons ev_var (ea_cons ev_var (ea_cons (ev_cb (ea_cons ev_var ea_nil) (cs_one us_tuple)) (ea_cons (ev_cb (ea_cons ev_var ea_nil) (cs_one us_tuple)) ea_nil))))))))))
  T.u_xown sc_xown (fun cd A out s H hr hgu =>
  (pss_cons (ps_asg (pe_tup (pa_cons (pe_ix ix_seq (pv 0) pe_int (fun _ _ => rfl)) (pa_cons (pe_callB call_len1 rfl T.m_len (by decide +kernel) (pa_cons (pe_callG (ok_xspots T) (hr.mono (by decide)) hgu rfl T.g_xspots T.u_xspots.kp T.b_xspots (pa_cons (pv 0) pa_nil)) pa_nil)) pa_nil))) (pg_tup rfl (pgs_cons (pg_name (i := 2) sc_xown.nd rfl (Or.inr rfl)) (pgs_cons (pg_name (i := 3) sc_xown.nd rfl (Or.inr rfl)) pgs_nil))))
    (pss_cons (ps_setLc (i := 4) (own := [("_law_x", 7)]) rfl sc_xown.nd rfl rfl (sw_true rfl rfl rfl (by decide +kernel)) (pi_sq (pv 1)) (blkOk_by (N := N_xown) (sc := defScope s_xown) (by decide +kernel)) (fun _ _ _ _ _ => (pg_name (i := 7) sc_xown.nd rfl (Or.inl rfl))) (fun _ _ _ _ _ => pts_nil) (fun _ _ _ _ _ => (pe_callG (ok_xsums T) (hr.mono (by decide)) hgu rfl T.g_xsums T.u_xsums.kp T.b_xsums (pa_cons (pv 0) (pa_cons (pv 7) pa_nil)))))
    (pss_cons (ps_set (i := 5) sc_xown.nd rfl (Or.inl rfl) (pe_lst pa_nil))
    (pss_cons (ps_for PassesOwn.never rfl (pi_enumM rfl T.m_enumerate (pa_cons (pv 1) pa_nil)) (pg_tup rfl (pgs_cons (pg_name (i := 6) sc_xown.nd rfl (Or.inr rfl)) (pgs_cons (pg_name (i := 7) sc_xown.nd rfl (Or.inr rfl)) pgs_nil))) (pss_one (ps_expr (pe_bm PySem.F.plainAttrs_list PySem.F.slot_list_append PySem.F.type_list_append mt_append (pv 5) (pa_cons (pe_callTy call_tuple1 rfl T.m_tuple (by decide +kernel) (pa_cons (pe_lc (own := [("_law_h", 8), ("_law_rows", 9)]) rfl sc_xown.nd (pi_enumM rfl T.m_enumerate (pa_cons (pv 4) pa_nil)) (blkOk_by (N := N_xown) (sc := defScope s_xown) (by decide +kernel)) (fun _ _ _ _ _ => (pg_tup rfl (pgs_cons (pg_name (i := 8) sc_xown.nd rfl (Or.inl rfl)) (pgs_cons (pg_name (i := 9) sc_xown.nd rfl (Or.inl rfl)) pgs_nil)))) (fun _ _ _ _ _ => pts_nil) (fun _ _ _ _ _ => (pe_ix ix_seq (pe_lst (pa_cons (pe_callG (ok_xtold_sum T) (hr.mono (by decide)) hgu rfl T.g_xtold_sum T.u_xtold_sum.kp T.b_xtold_sum (pa_cons (pv 2) (pa_cons (pv 9) (pa_cons (pv 7) pa_nil)))) (pa_cons (pe_op op_mulA (pe_tup (pa_cons pe_int pa_nil)) (pv 3)) pa_nil))) (pe_callTy call_int1' rfl T.m_int (by decide +kernel) (pa_cons (pe_cmpR (op_eqA (room64 hr)) (pv 8) (pv 6) rfl) pa_nil)) (fun _ _ => rfl)))) pa_nil)) pa_nil)))))
    (pss_one (ps_ret (pe_tup (pa_cons (pv 2) (pa_cons (pv 3) (pa_cons (pe_callTy call_tuple1 rfl T.m_tuple (by decide +kernel) (pa_cons (pv 4) pa_nil)) (pa_cons (pe_callTy call_tuple1 rfl T.m_tuple (by decide +kernel) (pa_cons (pv 5) pa_nil)) pa_nil))))))))))))
theorem ok_is_number (T : Txt K mg) : FnG P w K mg base 1 T.a_is_number T.fd_is_number ["thing"] (spF K 1 F_is_number) :=
  fn_okG (k := 0) (body := B_is_number) (N := N_is_number)
  (et_ret (ev_and (ev_isi ev_var) (ev_not (ev_isi ev_var))))
  T.u_is_number sc_is_number (fun cd A out s H hr hgu =>
  (pss_one (ps_ret (pe_and (pe_isi rfl T.m_isinstance rfl T.m_int (by decide +kernel) (pv 0)) (pe_one (pe_not (pe_isi rfl T.m_isinstance rfl T.m_bool (by decide +kernel) (pv 0))))))))
theorem ok_is_rest (T : Txt K mg) : FnG P w K mg base 2 T.a_is_rest T.fd_is_rest ["p", "thing"] (spF K 2 F_is_rest) :=
  fn_okG (k := 1) (body := B_is_rest) (N := N_is_rest)
  (et_ret (ev_and (ev_call (ea_cons ev_var ea_nil) (na_cons na_nil)) (ev_chain ev_int ev_var ev_var os_le os_lt)))
  T.u_is_rest sc_is_rest (fun cd A out s H hr hgu =>
  (pss_one (ps_ret (pe_and (pe_callG (ok_is_number T) (hr.mono (by decide)) hgu rfl T.g_is_number T.u_is_number.kp T.b_is_number (pa_cons (pv 1) pa_nil)) (pe_one (pe_chain op_le op_lt pe_int (pv 1) (pv 0)))))))
theorem ok_is_row (T : Txt K mg) : FnG P w K mg base 3 T.a_is_row T.fd_is_row ["p", "many", "thing"] (spF K 3 F_is_row) :=
  fn_okG (k := 2) (body := B_is_row) (N := N_is_row)
  (et_seq (et_if (eb_or (eb_not (eb_B (ev_isi ev_var))) (eb_test (ev_op (ev_cb (ea_cons ev_var ea_nil) (cs_one us_len)) ev_var os_ne))) (et_ret ev_bl) et_next)
    (et_ret (ev_cb (ea_cons (ev_lc (ei_sq ev_var) eg_name (gw_name (by decide)) eb_yes (ev_call (ea_cons ev_var (ea_cons ev_var ea_nil)) (na_cons (na_cons na_nil)))) ea_nil) (cs_one us_all))))
  T.u_is_row sc_is_row (fun cd A out s H hr hgu =>
  (pss_cons (ps_if (PW.pt (pw_or (pt_not (pt_val (pe_isi rfl T.m_isinstance rfl T.m_tuple (by decide +kernel) (pv 2)))) (pw_or1 (pt_cmpR (op_neA (room64 hr)) (pe_callB call_len1 rfl T.m_len (by decide +kernel) (pa_cons (pv 2) pa_nil)) (pv 1) rfl)))) (pss_one (ps_ret pe_bl)) pss_nil)
    (pss_one (ps_ret (pe_callB (call_all1 rfl) rfl T.m_all (by decide +kernel) (pa_cons (pe_lc (own := [("rest", 3)]) rfl sc_is_row.nd (pi_sq (pv 2)) (blkOk_by (N := N_is_row) (sc := defScope s_is_row) (by decide +kernel)) (fun _ _ _ _ _ => (pg_name (i := 3) sc_is_row.nd rfl (Or.inl rfl))) (fun _ _ _ _ _ => pts_nil) (fun _ _ _ _ _ => (pe_callG (ok_is_rest T) (hr.mono (by decide)) hgu rfl T.g_is_rest T.u_is_rest.kp T.b_is_rest (pa_cons (pv 0) (pa_cons (pv 3) pa_nil))))) pa_nil))))))
theorem ok_are_rows (T : Txt K mg) : FnG P w K mg base 4 T.a_are_rows T.fd_are_rows ["p", "n", "many", "thing"] (spF K 4 F_are_rows) :=
  fn_okG (k := 3) (body := B_are_rows) (N := N_are_rows)
  (et_ret (ev_and (ev_isi ev_var) (ev_and (ev_op (ev_cb (ea_cons ev_var ea_nil) (cs_one us_len)) ev_var os_eq) (ev_cb (ea_cons (ev_lc (ei_sq ev_var) eg_name (gw_name (by decide)) eb_yes (ev_call (ea_cons ev_var (ea_cons ev_var (ea_cons ev_var ea_nil))) (na_cons (na_cons (na_cons na_nil))))) ea_nil) (cs_one us_all)))))
  T.u_are_rows sc_are_rows (fun cd A out s H hr hgu =>
  (pss_one (ps_ret (pe_and (pe_isi rfl T.m_isinstance rfl T.m_tuple (by decide +kernel) (pv 3)) (pe_and (pe_cmpR (op_eqA (room64 hr)) (pe_callB call_len1 rfl T.m_len (by decide +kernel) (pa_cons (pv 3) pa_nil)) (pv 2) rfl) (pe_one (pe_callB (call_all1 rfl) rfl T.m_all (by decide +kernel) (pa_cons (pe_lc (own := [("row", 4)]) rfl sc_are_rows.nd (pi_sq (pv 3)) (blkOk_by (N := N_are_rows) (sc := defScope s_are_rows) (by decide +kernel)) (fun _ _ _ _ _ => (pg_name (i := 4) sc_are_rows.nd rfl (Or.inl rfl))) (fun _ _ _ _ _ => pts_nil) (fun _ _ _ _ _ => (pe_callG (ok_is_row T) (hr.mono (by decide)) hgu rfl T.g_is_row T.u_is_row.kp T.b_is_row (pa_cons (pv 0) (pa_cons (pv 1) (pa_cons (pv 4) pa_nil)))))) pa_nil))))))))
theorem ok_are_keeps (T : Txt K mg) : FnG P w K mg base 5 T.a_are_keeps T.fd_are_keeps ["p", "many", "thing"] (spF K 3 F_are_keeps) :=
  fn_okG (k := 4) (body := B_are_keeps) (N := N_are_keeps)
  (et_seq (et_if (eb_or (eb_not (eb_B (ev_isi ev_var))) (eb_not (eb_test (ev_chain (ev_glob T.d_FEWEST_HOUSES) (ev_cb (ea_cons ev_var ea_nil) (cs_one us_len)) (ev_glob T.d_MOST_HOUSES) os_le os_le)))) (et_ret ev_bl) et_next)
    (et_seq (et_if (eb_or (eb_not (eb_B (ev_isi (ev_op ev_var ev_int os_ix)))) (eb_not (eb_test (ev_chain ev_int (ev_cb (ea_cons (ev_op ev_var ev_int os_ix) ea_nil) (cs_one us_len)) (ev_cb (ea_cons (ev_glob T.d_MOST_COLUMNS) (ea_cons (ev_op (ev_cb (ea_cons ev_var ea_nil) (cs_one us_len)) ev_int os_sub) ea_nil)) cs_min2) os_le os_le)))) (et_ret ev_bl) et_next)
    (et_ret (ev_cb (ea_cons (ev_lc (ei_sq ev_var) eg_name (gw_name (by decide)) eb_yes (ev_call (ea_cons ev_var (ea_cons ev_var (ea_cons (ev_cb (ea_cons (ev_op ev_var ev_int os_ix) ea_nil) (cs_one us_len)) (ea_cons ev_var ea_nil)))) (na_cons (na_cons (na_cons (na_cons na_nil)))))) ea_nil) (cs_one us_all)))))
  T.u_are_keeps sc_are_keeps (fun cd A out s H hr hgu =>
  (pss_cons (ps_if (PW.pt (pw_or (pt_not (pt_val (pe_isi rfl T.m_isinstance rfl T.m_tuple (by decide +kernel) (pv 2)))) (pw_or1 (pt_not (pt_chain op_le op_le (pe_glob rfl T.g_FEWEST_HOUSES T.r_FEWEST_HOUSES) (pe_callB call_len1 rfl T.m_len (by decide +kernel) (pa_cons (pv 2) pa_nil)) (pe_glob rfl T.g_MOST_HOUSES T.r_MOST_HOUSES)))))) (pss_one (ps_ret pe_bl)) pss_nil)
    (pss_cons (ps_if (PW.pt (pw_or (pt_not (pt_val (pe_isi rfl T.m_isinstance rfl T.m_tuple (by decide +kernel) (pe_ix ix_seq (pv 2) pe_int (fun _ _ => rfl))))) (pw_or1 (pt_not (pt_chain op_le op_le pe_int (pe_callB call_len1 rfl T.m_len (by decide +kernel) (pa_cons (pe_ix ix_seq (pv 2) pe_int (fun _ _ => rfl)) pa_nil)) (pe_callB (call_min2 rfl) rfl T.m_min (by decide +kernel) (pa_cons (pe_glob rfl T.g_MOST_COLUMNS T.r_MOST_COLUMNS) (pa_cons (pe_op op_sub (pe_callB call_len1 rfl T.m_len (by decide +kernel) (pa_cons (pv 2) pa_nil)) pe_int) pa_nil)))))))) (pss_one (ps_ret pe_bl)) pss_nil)
    (pss_one (ps_ret (pe_callB (call_all1 rfl) rfl T.m_all (by decide +kernel) (pa_cons (pe_lc (own := [("house", 3)]) rfl sc_are_keeps.nd (pi_sq (pv 2)) (blkOk_by (N := N_are_keeps) (sc := defScope s_are_keeps) (by decide +kernel)) (fun _ _ _ _ _ => (pg_name (i := 3) sc_are_keeps.nd rfl (Or.inl rfl))) (fun _ _ _ _ _ => pts_nil) (fun _ _ _ _ _ => (pe_callG (ok_are_rows T) (hr.mono (by decide)) hgu rfl T.g_are_rows T.u_are_rows.kp T.b_are_rows (pa_cons (pv 0) (pa_cons (pv 1) (pa_cons (pe_callB call_len1 rfl T.m_len (by decide +kernel) (pa_cons (pe_ix ix_seq (pv 2) pe_int (fun _ _ => rfl)) pa_nil)) (pa_cons (pv 3) pa_nil))))))) pa_nil)))))))
theorem ok_are_tells (T : Txt K mg) : FnG P w K mg base 5 T.a_are_tells T.fd_are_tells ["p", "many", "houses", "thing"] (spF K 4 F_are_tells) :=
  fn_okG (k := 4) (body := B_are_tells) (N := N_are_tells)
  (et_seq (et_if (eb_or (eb_not (eb_B (ev_isi ev_var))) (eb_test (ev_op (ev_cb (ea_cons ev_var ea_nil) (cs_one us_len)) ev_var os_ne))) (et_ret ev_bl) et_next)
    (et_ret (ev_cb (ea_cons (ev_lc (ei_sq ev_var) eg_name (gw_name (by decide)) eb_yes (ev_call (ea_cons ev_var (ea_cons ev_var (ea_cons ev_var (ea_cons ev_var ea_nil)))) (na_cons (na_cons (na_cons (na_cons na_nil)))))) ea_nil) (cs_one us_all))))
  T.u_are_tells sc_are_tells (fun cd A out s H hr hgu =>
  (pss_cons (ps_if (PW.pt (pw_or (pt_not (pt_val (pe_isi rfl T.m_isinstance rfl T.m_tuple (by decide +kernel) (pv 3)))) (pw_or1 (pt_cmpR (op_neA (room64 hr)) (pe_callB call_len1 rfl T.m_len (by decide +kernel) (pa_cons (pv 3) pa_nil)) (pv 2) rfl)))) (pss_one (ps_ret pe_bl)) pss_nil)
    (pss_one (ps_ret (pe_callB (call_all1 rfl) rfl T.m_all (by decide +kernel) (pa_cons (pe_lc (own := [("told", 4)]) rfl sc_are_tells.nd (pi_sq (pv 3)) (blkOk_by (N := N_are_tells) (sc := defScope s_are_tells) (by decide +kernel)) (fun _ _ _ _ _ => (pg_name (i := 4) sc_are_tells.nd rfl (Or.inl rfl))) (fun _ _ _ _ _ => pts_nil) (fun _ _ _ _ _ => (pe_callG (ok_are_rows T) (hr.mono (by decide)) hgu rfl T.g_are_rows T.u_are_rows.kp T.b_are_rows (pa_cons (pv 0) (pa_cons (pv 1) (pa_cons (pv 2) (pa_cons (pv 4) pa_nil))))))) pa_nil))))))
theorem ok_is_prime (T : Txt K mg) : FnG P w K mg base 2 T.a_is_prime T.fd_is_prime ["thing"] (spF K 1 F_is_prime) :=
  fn_okG (k := 1) (body := B_is_prime) (N := N_is_prime)
  (et_ret (ev_and (ev_call (ea_cons ev_var ea_nil) (na_cons na_nil)) (ev_op ev_var (ev_glob T.d_PRIMES) os_in)))
  T.u_is_prime sc_is_prime (fun cd A out s H hr hgu =>
  (pss_one (ps_ret (pe_and (pe_callG (ok_is_number T) (hr.mono (by decide)) hgu rfl T.g_is_number T.u_is_number.kp T.b_is_number (pa_cons (pv 0) pa_nil)) (pe_one (pe_cmpR op_in_seq (pv 0) (pe_glob rfl T.g_PRIMES T.r_PRIMES) rfl))))))
theorem ok_is_laying (T : Txt K mg) : FnG P w K mg base 6 T.a_is_laying T.fd_is_laying ["thing"] (spF K 1 F_is_laying) :=
  fn_okG (k := 5) (body := B_is_laying) (N := N_is_laying)
  (et_seq (et_if (eb_or (eb_not (eb_B (ev_isi ev_var))) (eb_test (ev_op (ev_cb (ea_cons ev_var ea_nil) (cs_one us_len)) ev_int os_ne))) (et_ret ev_bl) et_next)
    (et_seq (et_asg ev_var (eg_tup (is := [1, 2, 3, 4]) rfl))
    (et_seq (et_if (eb_or (eb_not (eb_B (ev_call (ea_cons ev_var ea_nil) (na_cons na_nil)))) (eb_or (eb_not (eb_B (ev_call (ea_cons ev_var ea_nil) (na_cons na_nil)))) (eb_not (eb_test (ev_chain ev_int ev_var (ev_glob T.d_MOST_HIDDEN) os_le os_le))))) (et_ret ev_bl) et_next)
    (et_ret (ev_and (ev_call (ea_cons ev_var (ea_cons ev_var (ea_cons ev_var ea_nil))) (na_cons (na_cons (na_cons na_nil)))) (ev_call (ea_cons ev_var (ea_cons ev_var (ea_cons (ev_cb (ea_cons ev_var ea_nil) (cs_one us_len)) (ea_cons ev_var ea_nil)))) (na_cons (na_cons (na_cons (na_cons na_nil))))))))))
  T.u_is_laying sc_is_laying (fun cd A out s H hr hgu =>
  (pss_cons (ps_if (PW.pt (pw_or (pt_not (pt_val (pe_isi rfl T.m_isinstance rfl T.m_tuple (by decide +kernel) (pv 0)))) (pw_or1 (pt_cmpR (op_neA (room64 hr)) (pe_callB call_len1 rfl T.m_len (by decide +kernel) (pa_cons (pv 0) pa_nil)) pe_int rfl)))) (pss_one (ps_ret pe_bl)) pss_nil)
    (pss_cons (ps_asg (pv 0) (pg_tup rfl (pgs_cons (pg_name (i := 1) sc_is_laying.nd rfl (Or.inl rfl)) (pgs_cons (pg_name (i := 2) sc_is_laying.nd rfl (Or.inl rfl)) (pgs_cons (pg_name (i := 3) sc_is_laying.nd rfl (Or.inl rfl)) (pgs_cons (pg_name (i := 4) sc_is_laying.nd rfl (Or.inl rfl)) pgs_nil))))))
    (pss_cons (ps_if (PW.pt (pw_or (pt_not (pt_val (pe_callG (ok_is_prime T) (hr.mono (by decide)) hgu rfl T.g_is_prime T.u_is_prime.kp T.b_is_prime (pa_cons (pv 1) pa_nil)))) (pw_or (pt_not (pt_val (pe_callG (ok_is_number T) (hr.mono (by decide)) hgu rfl T.g_is_number T.u_is_number.kp T.b_is_number (pa_cons (pv 2) pa_nil)))) (pw_or1 (pt_not (pt_chain op_le op_le pe_int (pv 2) (pe_glob rfl T.g_MOST_HIDDEN T.r_MOST_HIDDEN))))))) (pss_one (ps_ret pe_bl)) pss_nil)
    (pss_one (ps_ret (pe_and (pe_callG (ok_are_keeps T) (hr.mono (by decide)) hgu rfl T.g_are_keeps T.u_are_keeps.kp T.b_are_keeps (pa_cons (pv 1) (pa_cons (pv 2) (pa_cons (pv 3) pa_nil)))) (pe_one (pe_callG (ok_are_tells T) (hr.mono (by decide)) hgu rfl T.g_are_tells T.u_are_tells.kp T.b_are_tells (pa_cons (pv 1) (pa_cons (pv 2) (pa_cons (pe_callB call_len1 rfl T.m_len (by decide +kernel) (pa_cons (pv 3) pa_nil)) (pa_cons (pv 4) pa_nil)))))))))))))
theorem ok_law (T : Txt K mg) : FnG P w K mg base 7 T.a_law T.fd_law ["_law_script"] (spF K 1 F_law) :=
  fn_okG (k := 6) (body := B_law) (N := N_law)
  (et_seq (et_asg (ev_call (ea_cons ev_var ea_nil) (na_cons na_nil)) eg_name)
    (et_seq (et_asg (ev_new ea_nil) eg_name)
    (et_seq (et_frz (et_for (ei_r1 (ea_cons ev_int ea_nil)) eg_name (et_seq (et_asg (ev_call (ea_cons ev_var (ea_cons ev_int ea_nil)) (na_cons (na_cons na_nil))) eg_name)
    (et_seq (et_asg (ev_call (ea_cons ev_var (ea_cons (ev_op ev_var ev_int os_ix) (ea_cons (ev_op ev_var ev_int os_ix) ea_nil))) (na_cons (na_cons (na_cons na_nil)))) eg_name)
    (et_app ev_var (ev_lst (ea_cons ev_var (ea_cons ev_var (ea_cons (ev_call (ea_cons ev_var (ea_cons ev_var ea_nil)) (na_cons (na_cons na_nil))) ea_nil)))))))))
    (et_seq (et_for (ei_sq (ev_op ev_var (ev_sl ev_var ev_oNone (ev_oSome ev_int) ss_sl) os_add)) (eg_unlD (is := [4, 5, 6]) rfl) (et_seq (et_asg (ev_call (ea_cons ev_var (ea_cons ev_var ea_nil)) (na_cons (na_cons na_nil))) eg_name)
    (et_if (eb_or (eb_test (ev_op (ev_cb (ea_cons ev_var ea_nil) (cs_one us_repr)) (ev_cb (ea_cons ev_var ea_nil) (cs_one us_repr)) os_ne)) (eb_test (ev_op (ev_call (ea_cons ev_var ea_nil) (na_cons na_nil)) ev_bl os_notB))) (et_ret ev_bl) et_next)))
    (et_ret ev_bl)))))
  T.u_law sc_law (fun cd A out s H hr hgu =>
  (pss_cons (ps_set (i := 1) sc_law.nd rfl (Or.inl rfl) (pe_callG (ok_xdraws T) (hr.mono (by decide)) hgu rfl T.g_xdraws T.u_xdraws.kp T.b_xdraws (pa_cons (pv 0) pa_nil)))
    (pss_cons (ps_set (i := 2) sc_law.nd rfl (Or.inl rfl) (pe_lst pa_nil))
    (pss_cons (ps_for PassesOwn.never rfl (pi_range1 rfl T.m_range (pa_cons pe_int pa_nil)) (pg_name (i := 3) sc_law.nd rfl (Or.inl rfl)) (pss_cons (ps_set (i := 4) sc_law.nd rfl (Or.inl rfl) (pe_callG (ok_xshape T) (hr.mono (by decide)) hgu rfl T.g_xshape T.u_xshape.kp T.b_xshape (pa_cons (pv 1) (pa_cons pe_int pa_nil))))
    (pss_cons (ps_set (i := 5) sc_law.nd rfl (Or.inl rfl) (pe_callG (ok_xhouses T) (hr.mono (by decide)) hgu rfl T.g_xhouses T.u_xhouses.kp T.b_xhouses (pa_cons (pv 1) (pa_cons (pe_ix ix_seq (pv 4) pe_int (fun _ _ => rfl)) (pa_cons (pe_ix ix_seq (pv 4) pe_int (fun _ _ => rfl)) pa_nil)))))
    (pss_one (ps_expr (pe_bm PySem.F.plainAttrs_list PySem.F.slot_list_append PySem.F.type_list_append mt_append (pv 2) (pa_cons (pe_lst (pa_cons (pv 4) (pa_cons (pv 5) (pa_cons (pe_callG (ok_xown T) (hr.mono (by decide)) hgu rfl T.g_xown T.u_xown.kp T.b_xown (pa_cons (pv 4) (pa_cons (pv 5) pa_nil))) pa_nil)))) pa_nil)))))))
    (pss_cons (ps_for PassesOwn.never rfl (pi_sq (pe_op op_addA (pv 2) (pe_slice sl_seq (pv 2) po_none (po_some pe_int)))) (pg_unl rfl (pgs_cons (pg_name (i := 4) sc_law.nd rfl (Or.inl rfl)) (pgs_cons (pg_name (i := 5) sc_law.nd rfl (Or.inl rfl)) (pgs_cons (pg_name (i := 6) sc_law.nd rfl (Or.inl rfl)) pgs_nil)))) (pss_cons (ps_set (i := 7) sc_law.nd rfl (Or.inl rfl) (pe_callG (ok_own_laying T) (hr.mono (by decide)) hgu rfl T.g_own_laying T.u_own_laying.kp T.b_own_laying (pa_cons (pv 4) (pa_cons (pv 5) pa_nil))))
    (pss_one (ps_if (PW.pt (pw_or (pt_cmpR (op_neA (room64 hr)) (pe_callB (call_repr1 hgu hr) rfl T.m_repr (by decide +kernel) (pa_cons (pv 7) pa_nil)) (pe_callB (call_repr1 hgu hr) rfl T.m_repr (by decide +kernel) (pa_cons (pv 6) pa_nil)) rfl) (pw_or1 (pt_cmpR op_isnot_bl (pe_callG (ok_is_laying T) (hr.mono (by decide)) hgu rfl T.g_is_laying T.u_is_laying.kp T.b_is_laying (pa_cons (pv 7) pa_nil)) pe_bl rfl)))) (pss_one (ps_ret pe_bl)) pss_nil))))
    (pss_one (ps_ret pe_bl)))))))
end
/-! ### the end -/
theorem all_mk {l : PySem.W.OpenLaw} {w : World} {K : PySem.W.Frag} {h : Heap} {mg : Str → Option Value} {fa : Addr} (X : K.In h) (G : h.Ns mainGlobals mg) (hfa : mg "law" = some (.ref fa))
    {f0 : Addr} {od0 an0 : Option Addr} {sl0 : Array (Option Value)} {oc0 kV0 dc0 pm0 cd0 ct0 : Value}
    (a0 : PySem.W.nsIn K mainGlobals "_law_draws" = some (some (.ref f0))) (l0 : K.lookup f0 = some ⟨oc0, od0, .func (PySem.W.fnOf "_law_draws" "_law_draws" (defArgs s_xdraws) (defBody s_xdraws) (defScope s_xdraws) .none kV0 dc0 pm0 an0 cd0 ct0), sl0⟩) (c0 : PySem.W.codeIn K cd0 "_law_draws" = true) (k0 : PySem.W.keepIn K (.ref f0) = true)
{f1 : Addr} {od1 an1 : Option Addr} {sl1 : Array (Option Value)} {oc1 kV1 dc1 pm1 cd1 ct1 : Value}
    (a1 : PySem.W.nsIn K mainGlobals "_law_next" = some (some (.ref f1))) (l1 : K.lookup f1 = some ⟨oc1, od1, .func (PySem.W.fnOf "_law_next" "_law_next" (defArgs s_xnext) (defBody s_xnext) (defScope s_xnext) .none kV1 dc1 pm1 an1 cd1 ct1), sl1⟩) (c1 : PySem.W.codeIn K cd1 "_law_next" = true) (k1 : PySem.W.keepIn K (.ref f1) = true)
{f2 : Addr} {od2 an2 : Option Addr} {sl2 : Array (Option Value)} {oc2 kV2 dc2 pm2 cd2 ct2 : Value}
    (a2 : PySem.W.nsIn K mainGlobals "_law_one" = some (some (.ref f2))) (l2 : K.lookup f2 = some ⟨oc2, od2, .func (PySem.W.fnOf "_law_one" "_law_one" (defArgs s_xone) (defBody s_xone) (defScope s_xone) .none kV2 dc2 pm2 an2 cd2 ct2), sl2⟩) (c2 : PySem.W.codeIn K cd2 "_law_one" = true) (k2 : PySem.W.keepIn K (.ref f2) = true)
{f3 : Addr} {od3 an3 : Option Addr} {sl3 : Array (Option Value)} {oc3 kV3 dc3 pm3 cd3 ct3 : Value}
    (a3 : PySem.W.nsIn K mainGlobals "_law_prime" = some (some (.ref f3))) (l3 : K.lookup f3 = some ⟨oc3, od3, .func (PySem.W.fnOf "_law_prime" "_law_prime" (defArgs s_xprime) (defBody s_xprime) (defScope s_xprime) .none kV3 dc3 pm3 an3 cd3 ct3), sl3⟩) (c3 : PySem.W.codeIn K cd3 "_law_prime" = true) (k3 : PySem.W.keepIn K (.ref f3) = true)
{f4 : Addr} {od4 an4 : Option Addr} {sl4 : Array (Option Value)} {oc4 kV4 dc4 pm4 cd4 ct4 : Value}
    (a4 : PySem.W.nsIn K mainGlobals "_law_shape" = some (some (.ref f4))) (l4 : K.lookup f4 = some ⟨oc4, od4, .func (PySem.W.fnOf "_law_shape" "_law_shape" (defArgs s_xshape) (defBody s_xshape) (defScope s_xshape) .none kV4 dc4 pm4 an4 cd4 ct4), sl4⟩) (c4 : PySem.W.codeIn K cd4 "_law_shape" = true) (k4 : PySem.W.keepIn K (.ref f4) = true)
{f5 : Addr} {od5 an5 : Option Addr} {sl5 : Array (Option Value)} {oc5 kV5 dc5 pm5 cd5 ct5 : Value}
    (a5 : PySem.W.nsIn K mainGlobals "_law_xs" = some (some (.ref f5))) (l5 : K.lookup f5 = some ⟨oc5, od5, .func (PySem.W.fnOf "_law_xs" "_law_xs" (defArgs s_xxs) (defBody s_xxs) (defScope s_xxs) .none kV5 dc5 pm5 an5 cd5 ct5), sl5⟩) (c5 : PySem.W.codeIn K cd5 "_law_xs" = true) (k5 : PySem.W.keepIn K (.ref f5) = true)
{f6 : Addr} {od6 an6 : Option Addr} {sl6 : Array (Option Value)} {oc6 kV6 dc6 pm6 cd6 ct6 : Value}
    (a6 : PySem.W.nsIn K mainGlobals "_law_houses" = some (some (.ref f6))) (l6 : K.lookup f6 = some ⟨oc6, od6, .func (PySem.W.fnOf "_law_houses" "_law_houses" (defArgs s_xhouses) (defBody s_xhouses) (defScope s_xhouses) .none kV6 dc6 pm6 an6 cd6 ct6), sl6⟩) (c6 : PySem.W.codeIn K cd6 "_law_houses" = true) (k6 : PySem.W.keepIn K (.ref f6) = true)
{f7 : Addr} {od7 an7 : Option Addr} {sl7 : Array (Option Value)} {oc7 kV7 dc7 pm7 cd7 ct7 : Value}
    (a7 : PySem.W.nsIn K mainGlobals "places_many" = some (some (.ref f7))) (l7 : K.lookup f7 = some ⟨oc7, od7, .func (PySem.W.fnOf "places_many" "places_many" (defArgs s_places_many) (defBody s_places_many) (defScope s_places_many) .none kV7 dc7 pm7 an7 cd7 ct7), sl7⟩) (c7 : PySem.W.codeIn K cd7 "places_many" = true) (k7 : PySem.W.keepIn K (.ref f7) = true)
{f8 : Addr} {od8 an8 : Option Addr} {sl8 : Array (Option Value)} {oc8 kV8 dc8 pm8 cd8 ct8 : Value}
    (a8 : PySem.W.nsIn K mainGlobals "bound_of" = some (some (.ref f8))) (l8 : K.lookup f8 = some ⟨oc8, od8, .func (PySem.W.fnOf "bound_of" "bound_of" (defArgs s_bound_of) (defBody s_bound_of) (defScope s_bound_of) .none kV8 dc8 pm8 an8 cd8 ct8), sl8⟩) (c8 : PySem.W.codeIn K cd8 "bound_of" = true) (k8 : PySem.W.keepIn K (.ref f8) = true)
{f9 : Addr} {od9 an9 : Option Addr} {sl9 : Array (Option Value)} {oc9 kV9 dc9 pm9 cd9 ct9 : Value}
    (a9 : PySem.W.nsIn K mainGlobals "powers_of" = some (some (.ref f9))) (l9 : K.lookup f9 = some ⟨oc9, od9, .func (PySem.W.fnOf "powers_of" "powers_of" (defArgs s_powers_of) (defBody s_powers_of) (defScope s_powers_of) .none kV9 dc9 pm9 an9 cd9 ct9), sl9⟩) (c9 : PySem.W.codeIn K cd9 "powers_of" = true) (k9 : PySem.W.keepIn K (.ref f9) = true)
{f10 : Addr} {od10 an10 : Option Addr} {sl10 : Array (Option Value)} {oc10 kV10 dc10 pm10 cd10 ct10 : Value}
    (a10 : PySem.W.nsIn K mainGlobals "places_of" = some (some (.ref f10))) (l10 : K.lookup f10 = some ⟨oc10, od10, .func (PySem.W.fnOf "places_of" "places_of" (defArgs s_places_of) (defBody s_places_of) (defScope s_places_of) .none kV10 dc10 pm10 an10 cd10 ct10), sl10⟩) (c10 : PySem.W.codeIn K cd10 "places_of" = true) (k10 : PySem.W.keepIn K (.ref f10) = true)
{f11 : Addr} {od11 an11 : Option Addr} {sl11 : Array (Option Value)} {oc11 kV11 dc11 pm11 cd11 ct11 : Value}
    (a11 : PySem.W.nsIn K mainGlobals "times_kept" = some (some (.ref f11))) (l11 : K.lookup f11 = some ⟨oc11, od11, .func (PySem.W.fnOf "times_kept" "times_kept" (defArgs s_times_kept) (defBody s_times_kept) (defScope s_times_kept) .none kV11 dc11 pm11 an11 cd11 ct11), sl11⟩) (c11 : PySem.W.codeIn K cd11 "times_kept" = true) (k11 : PySem.W.keepIn K (.ref f11) = true)
{f12 : Addr} {od12 an12 : Option Addr} {sl12 : Array (Option Value)} {oc12 kV12 dc12 pm12 cd12 ct12 : Value}
    (a12 : PySem.W.nsIn K mainGlobals "kept_sums" = some (some (.ref f12))) (l12 : K.lookup f12 = some ⟨oc12, od12, .func (PySem.W.fnOf "kept_sums" "kept_sums" (defArgs s_kept_sums) (defBody s_kept_sums) (defScope s_kept_sums) .none kV12 dc12 pm12 an12 cd12 ct12), sl12⟩) (c12 : PySem.W.codeIn K cd12 "kept_sums" = true) (k12 : PySem.W.keepIn K (.ref f12) = true)
{f13 : Addr} {od13 an13 : Option Addr} {sl13 : Array (Option Value)} {oc13 kV13 dc13 pm13 cd13 ct13 : Value}
    (a13 : PySem.W.nsIn K mainGlobals "with_multiple" = some (some (.ref f13))) (l13 : K.lookup f13 = some ⟨oc13, od13, .func (PySem.W.fnOf "with_multiple" "with_multiple" (defArgs s_with_multiple) (defBody s_with_multiple) (defScope s_with_multiple) .none kV13 dc13 pm13 an13 cd13 ct13), sl13⟩) (c13 : PySem.W.codeIn K cd13 "with_multiple" = true) (k13 : PySem.W.keepIn K (.ref f13) = true)
{f14 : Addr} {od14 an14 : Option Addr} {sl14 : Array (Option Value)} {oc14 kV14 dc14 pm14 cd14 ct14 : Value}
    (a14 : PySem.W.nsIn K mainGlobals "sums_told" = some (some (.ref f14))) (l14 : K.lookup f14 = some ⟨oc14, od14, .func (PySem.W.fnOf "sums_told" "sums_told" (defArgs s_sums_told) (defBody s_sums_told) (defScope s_sums_told) .none kV14 dc14 pm14 an14 cd14 ct14), sl14⟩) (c14 : PySem.W.codeIn K cd14 "sums_told" = true) (k14 : PySem.W.keepIn K (.ref f14) = true)
{f15 : Addr} {od15 an15 : Option Addr} {sl15 : Array (Option Value)} {oc15 kV15 dc15 pm15 cd15 ct15 : Value}
    (a15 : PySem.W.nsIn K mainGlobals "own_laying" = some (some (.ref f15))) (l15 : K.lookup f15 = some ⟨oc15, od15, .func (PySem.W.fnOf "own_laying" "own_laying" (defArgs s_own_laying) (defBody s_own_laying) (defScope s_own_laying) .none kV15 dc15 pm15 an15 cd15 ct15), sl15⟩) (c15 : PySem.W.codeIn K cd15 "own_laying" = true) (k15 : PySem.W.keepIn K (.ref f15) = true)
{f16 : Addr} {od16 an16 : Option Addr} {sl16 : Array (Option Value)} {oc16 kV16 dc16 pm16 cd16 ct16 : Value}
    (a16 : PySem.W.nsIn K mainGlobals "_law_spots" = some (some (.ref f16))) (l16 : K.lookup f16 = some ⟨oc16, od16, .func (PySem.W.fnOf "_law_spots" "_law_spots" (defArgs s_xspots) (defBody s_xspots) (defScope s_xspots) .none kV16 dc16 pm16 an16 cd16 ct16), sl16⟩) (c16 : PySem.W.codeIn K cd16 "_law_spots" = true) (k16 : PySem.W.keepIn K (.ref f16) = true)
{f17 : Addr} {od17 an17 : Option Addr} {sl17 : Array (Option Value)} {oc17 kV17 dc17 pm17 cd17 ct17 : Value}
    (a17 : PySem.W.nsIn K mainGlobals "_law_powers" = some (some (.ref f17))) (l17 : K.lookup f17 = some ⟨oc17, od17, .func (PySem.W.fnOf "_law_powers" "_law_powers" (defArgs s_xpowers) (defBody s_xpowers) (defScope s_xpowers) .none kV17 dc17 pm17 an17 cd17 ct17), sl17⟩) (c17 : PySem.W.codeIn K cd17 "_law_powers" = true) (k17 : PySem.W.keepIn K (.ref f17) = true)
{f18 : Addr} {od18 an18 : Option Addr} {sl18 : Array (Option Value)} {oc18 kV18 dc18 pm18 cd18 ct18 : Value}
    (a18 : PySem.W.nsIn K mainGlobals "_law_tabled" = some (some (.ref f18))) (l18 : K.lookup f18 = some ⟨oc18, od18, .func (PySem.W.fnOf "_law_tabled" "_law_tabled" (defArgs s_xtabled) (defBody s_xtabled) (defScope s_xtabled) .none kV18 dc18 pm18 an18 cd18 ct18), sl18⟩) (c18 : PySem.W.codeIn K cd18 "_law_tabled" = true) (k18 : PySem.W.keepIn K (.ref f18) = true)
{f19 : Addr} {od19 an19 : Option Addr} {sl19 : Array (Option Value)} {oc19 kV19 dc19 pm19 cd19 ct19 : Value}
    (a19 : PySem.W.nsIn K mainGlobals "_law_keeps" = some (some (.ref f19))) (l19 : K.lookup f19 = some ⟨oc19, od19, .func (PySem.W.fnOf "_law_keeps" "_law_keeps" (defArgs s_xkeeps) (defBody s_xkeeps) (defScope s_xkeeps) .none kV19 dc19 pm19 an19 cd19 ct19), sl19⟩) (c19 : PySem.W.codeIn K cd19 "_law_keeps" = true) (k19 : PySem.W.keepIn K (.ref f19) = true)
{f20 : Addr} {od20 an20 : Option Addr} {sl20 : Array (Option Value)} {oc20 kV20 dc20 pm20 cd20 ct20 : Value}
    (a20 : PySem.W.nsIn K mainGlobals "_law_sums" = some (some (.ref f20))) (l20 : K.lookup f20 = some ⟨oc20, od20, .func (PySem.W.fnOf "_law_sums" "_law_sums" (defArgs s_xsums) (defBody s_xsums) (defScope s_xsums) .none kV20 dc20 pm20 an20 cd20 ct20), sl20⟩) (c20 : PySem.W.codeIn K cd20 "_law_sums" = true) (k20 : PySem.W.keepIn K (.ref f20) = true)
{f21 : Addr} {od21 an21 : Option Addr} {sl21 : Array (Option Value)} {oc21 kV21 dc21 pm21 cd21 ct21 : Value}
    (a21 : PySem.W.nsIn K mainGlobals "_law_mix" = some (some (.ref f21))) (l21 : K.lookup f21 = some ⟨oc21, od21, .func (PySem.W.fnOf "_law_mix" "_law_mix" (defArgs s_xmix) (defBody s_xmix) (defScope s_xmix) .none kV21 dc21 pm21 an21 cd21 ct21), sl21⟩) (c21 : PySem.W.codeIn K cd21 "_law_mix" = true) (k21 : PySem.W.keepIn K (.ref f21) = true)
{f22 : Addr} {od22 an22 : Option Addr} {sl22 : Array (Option Value)} {oc22 kV22 dc22 pm22 cd22 ct22 : Value}
    (a22 : PySem.W.nsIn K mainGlobals "_law_told_sum" = some (some (.ref f22))) (l22 : K.lookup f22 = some ⟨oc22, od22, .func (PySem.W.fnOf "_law_told_sum" "_law_told_sum" (defArgs s_xtold_sum) (defBody s_xtold_sum) (defScope s_xtold_sum) .none kV22 dc22 pm22 an22 cd22 ct22), sl22⟩) (c22 : PySem.W.codeIn K cd22 "_law_told_sum" = true) (k22 : PySem.W.keepIn K (.ref f22) = true)
{f23 : Addr} {od23 an23 : Option Addr} {sl23 : Array (Option Value)} {oc23 kV23 dc23 pm23 cd23 ct23 : Value}
    (a23 : PySem.W.nsIn K mainGlobals "_law_own" = some (some (.ref f23))) (l23 : K.lookup f23 = some ⟨oc23, od23, .func (PySem.W.fnOf "_law_own" "_law_own" (defArgs s_xown) (defBody s_xown) (defScope s_xown) .none kV23 dc23 pm23 an23 cd23 ct23), sl23⟩) (c23 : PySem.W.codeIn K cd23 "_law_own" = true) (k23 : PySem.W.keepIn K (.ref f23) = true)
{f24 : Addr} {od24 an24 : Option Addr} {sl24 : Array (Option Value)} {oc24 kV24 dc24 pm24 cd24 ct24 : Value}
    (a24 : PySem.W.nsIn K mainGlobals "is_number" = some (some (.ref f24))) (l24 : K.lookup f24 = some ⟨oc24, od24, .func (PySem.W.fnOf "is_number" "is_number" (defArgs s_is_number) (defBody s_is_number) (defScope s_is_number) .none kV24 dc24 pm24 an24 cd24 ct24), sl24⟩) (c24 : PySem.W.codeIn K cd24 "is_number" = true) (k24 : PySem.W.keepIn K (.ref f24) = true)
{f25 : Addr} {od25 an25 : Option Addr} {sl25 : Array (Option Value)} {oc25 kV25 dc25 pm25 cd25 ct25 : Value}
    (a25 : PySem.W.nsIn K mainGlobals "is_rest" = some (some (.ref f25))) (l25 : K.lookup f25 = some ⟨oc25, od25, .func (PySem.W.fnOf "is_rest" "is_rest" (defArgs s_is_rest) (defBody s_is_rest) (defScope s_is_rest) .none kV25 dc25 pm25 an25 cd25 ct25), sl25⟩) (c25 : PySem.W.codeIn K cd25 "is_rest" = true) (k25 : PySem.W.keepIn K (.ref f25) = true)
{f26 : Addr} {od26 an26 : Option Addr} {sl26 : Array (Option Value)} {oc26 kV26 dc26 pm26 cd26 ct26 : Value}
    (a26 : PySem.W.nsIn K mainGlobals "is_row" = some (some (.ref f26))) (l26 : K.lookup f26 = some ⟨oc26, od26, .func (PySem.W.fnOf "is_row" "is_row" (defArgs s_is_row) (defBody s_is_row) (defScope s_is_row) .none kV26 dc26 pm26 an26 cd26 ct26), sl26⟩) (c26 : PySem.W.codeIn K cd26 "is_row" = true) (k26 : PySem.W.keepIn K (.ref f26) = true)
{f27 : Addr} {od27 an27 : Option Addr} {sl27 : Array (Option Value)} {oc27 kV27 dc27 pm27 cd27 ct27 : Value}
    (a27 : PySem.W.nsIn K mainGlobals "are_rows" = some (some (.ref f27))) (l27 : K.lookup f27 = some ⟨oc27, od27, .func (PySem.W.fnOf "are_rows" "are_rows" (defArgs s_are_rows) (defBody s_are_rows) (defScope s_are_rows) .none kV27 dc27 pm27 an27 cd27 ct27), sl27⟩) (c27 : PySem.W.codeIn K cd27 "are_rows" = true) (k27 : PySem.W.keepIn K (.ref f27) = true)
{f28 : Addr} {od28 an28 : Option Addr} {sl28 : Array (Option Value)} {oc28 kV28 dc28 pm28 cd28 ct28 : Value}
    (a28 : PySem.W.nsIn K mainGlobals "are_keeps" = some (some (.ref f28))) (l28 : K.lookup f28 = some ⟨oc28, od28, .func (PySem.W.fnOf "are_keeps" "are_keeps" (defArgs s_are_keeps) (defBody s_are_keeps) (defScope s_are_keeps) .none kV28 dc28 pm28 an28 cd28 ct28), sl28⟩) (c28 : PySem.W.codeIn K cd28 "are_keeps" = true) (k28 : PySem.W.keepIn K (.ref f28) = true)
{f29 : Addr} {od29 an29 : Option Addr} {sl29 : Array (Option Value)} {oc29 kV29 dc29 pm29 cd29 ct29 : Value}
    (a29 : PySem.W.nsIn K mainGlobals "are_tells" = some (some (.ref f29))) (l29 : K.lookup f29 = some ⟨oc29, od29, .func (PySem.W.fnOf "are_tells" "are_tells" (defArgs s_are_tells) (defBody s_are_tells) (defScope s_are_tells) .none kV29 dc29 pm29 an29 cd29 ct29), sl29⟩) (c29 : PySem.W.codeIn K cd29 "are_tells" = true) (k29 : PySem.W.keepIn K (.ref f29) = true)
{f30 : Addr} {od30 an30 : Option Addr} {sl30 : Array (Option Value)} {oc30 kV30 dc30 pm30 cd30 ct30 : Value}
    (a30 : PySem.W.nsIn K mainGlobals "is_prime" = some (some (.ref f30))) (l30 : K.lookup f30 = some ⟨oc30, od30, .func (PySem.W.fnOf "is_prime" "is_prime" (defArgs s_is_prime) (defBody s_is_prime) (defScope s_is_prime) .none kV30 dc30 pm30 an30 cd30 ct30), sl30⟩) (c30 : PySem.W.codeIn K cd30 "is_prime" = true) (k30 : PySem.W.keepIn K (.ref f30) = true)
{f31 : Addr} {od31 an31 : Option Addr} {sl31 : Array (Option Value)} {oc31 kV31 dc31 pm31 cd31 ct31 : Value}
    (a31 : PySem.W.nsIn K mainGlobals "is_laying" = some (some (.ref f31))) (l31 : K.lookup f31 = some ⟨oc31, od31, .func (PySem.W.fnOf "is_laying" "is_laying" (defArgs s_is_laying) (defBody s_is_laying) (defScope s_is_laying) .none kV31 dc31 pm31 an31 cd31 ct31), sl31⟩) (c31 : PySem.W.codeIn K cd31 "is_laying" = true) (k31 : PySem.W.keepIn K (.ref f31) = true)
{f32 : Addr} {od32 an32 : Option Addr} {sl32 : Array (Option Value)} {oc32 kV32 dc32 pm32 cd32 ct32 : Value}
    (a32 : PySem.W.nsIn K mainGlobals "law" = some (some (.ref f32))) (l32 : K.lookup f32 = some ⟨oc32, od32, .func (PySem.W.fnOf "law" "law" (defArgs s_law) (defBody s_law) (defScope s_law) .none kV32 dc32 pm32 an32 cd32 ct32), sl32⟩) (c32 : PySem.W.codeIn K cd32 "law" = true) (k32 : PySem.W.keepIn K (.ref f32) = true)
    (z_all : PySem.W.nsIn K mainGlobals "all" = some none)
    (z_bool : PySem.W.nsIn K mainGlobals "bool" = some none)
    (z_enumerate : PySem.W.nsIn K mainGlobals "enumerate" = some none)
    (z_int : PySem.W.nsIn K mainGlobals "int" = some none)
    (z_isinstance : PySem.W.nsIn K mainGlobals "isinstance" = some none)
    (z_len : PySem.W.nsIn K mainGlobals "len" = some none)
    (z_list : PySem.W.nsIn K mainGlobals "list" = some none)
    (z_min : PySem.W.nsIn K mainGlobals "min" = some none)
    (z_range : PySem.W.nsIn K mainGlobals "range" = some none)
    (z_repr : PySem.W.nsIn K mainGlobals "repr" = some none)
    (z_sorted : PySem.W.nsIn K mainGlobals "sorted" = some none)
    (z_sum : PySem.W.nsIn K mainGlobals "sum" = some none)
    (z_tuple : PySem.W.nsIn K mainGlobals "tuple" = some none)
    (z_zip : PySem.W.nsIn K mainGlobals "zip" = some none)
    {e_PRIMES : Addr} {o_PRIMES : Obj} {i_PRIMES : Array Value} {n_PRIMES : Nat} (y_PRIMES : PySem.W.nsIn K mainGlobals "PRIMES" = some (some (.ref e_PRIMES))) (q_PRIMES : K.lookup e_PRIMES = some o_PRIMES) (qc_PRIMES : o_PRIMES.cls = .type "tuple") (qd_PRIMES : o_PRIMES.data = .seq i_PRIMES n_PRIMES) (qs_PRIMES : i_PRIMES.size ≤ sizeLine) (qv_PRIMES : Vals (([11, 13, 17, 19, 23, 29, 31, 37, 41, 43, 47, 53, 59, 61, 67, 71, 73, 79, 83, 89, 97, 101, 103, 107, 109, 113, 127, 131, 137, 139, 149, 151, 157, 163, 167, 173, 179, 181, 191, 193, 197, 199, 211] : List Int).map V.int) i_PRIMES.toList)
    {t_MOST_COLUMNS : Tok} (y_MOST_COLUMNS : PySem.W.nsIn K mainGlobals "MOST_COLUMNS" = some (some (.int 5 t_MOST_COLUMNS)))
    {t_MOST_HIDDEN : Tok} (y_MOST_HIDDEN : PySem.W.nsIn K mainGlobals "MOST_HIDDEN" = some (some (.int 24 t_MOST_HIDDEN)))
    {t_FEWEST_HOUSES : Tok} (y_FEWEST_HOUSES : PySem.W.nsIn K mainGlobals "FEWEST_HOUSES" = some (some (.int 2 t_FEWEST_HOUSES)))
    {t_MOST_HOUSES : Tok} (y_MOST_HOUSES : PySem.W.nsIn K mainGlobals "MOST_HOUSES" = some (some (.int 8 t_MOST_HOUSES))) :
    ∃ fd : FuncData, (∀ (s : Shared) (v : Value), BindsTo s fd ⟨[v], []⟩ [("_law_script", v)]) ∧ ∀ base : Heap, K.In base → base.Ns mainGlobals mg → FnG l.prog w K mg base 7 fa fd ["_law_script"] (spF K 1 F_law) := by
  have e := hfa.symm.trans (PySem.W.mg_of X G a32)
  cases e
  let T : Txt K mg := {
    a_xdraws := f0, fd_xdraws := _, u_xdraws := fun_mk (st := s_xdraws) l0 c0 k0, g_xdraws := PySem.W.mg_of X G a0, b_xdraws := (fun_mk (st := s_xdraws) l0 c0 k0).binds (fun _ _ _ _ _ _ us hl => match us, hl with | [_], _ => rfl),
    a_xnext := f1, fd_xnext := _, u_xnext := fun_mk (st := s_xnext) l1 c1 k1, g_xnext := PySem.W.mg_of X G a1, b_xnext := (fun_mk (st := s_xnext) l1 c1 k1).binds (fun _ _ _ _ _ _ us hl => match us, hl with | [_, _], _ => rfl),
    a_xone := f2, fd_xone := _, u_xone := fun_mk (st := s_xone) l2 c2 k2, g_xone := PySem.W.mg_of X G a2, b_xone := (fun_mk (st := s_xone) l2 c2 k2).binds (fun _ _ _ _ _ _ us hl => match us, hl with | [_, _], _ => rfl),
    a_xprime := f3, fd_xprime := _, u_xprime := fun_mk (st := s_xprime) l3 c3 k3, g_xprime := PySem.W.mg_of X G a3, b_xprime := (fun_mk (st := s_xprime) l3 c3 k3).binds (fun _ _ _ _ _ _ us hl => match us, hl with | [_], _ => rfl),
    a_xshape := f4, fd_xshape := _, u_xshape := fun_mk (st := s_xshape) l4 c4 k4, g_xshape := PySem.W.mg_of X G a4, b_xshape := (fun_mk (st := s_xshape) l4 c4 k4).binds (fun _ _ _ _ _ _ us hl => match us, hl with | [_, _], _ => rfl),
    a_xxs := f5, fd_xxs := _, u_xxs := fun_mk (st := s_xxs) l5 c5 k5, g_xxs := PySem.W.mg_of X G a5, b_xxs := (fun_mk (st := s_xxs) l5 c5 k5).binds (fun _ _ _ _ _ _ us hl => match us, hl with | [_, _, _], _ => rfl),
    a_xhouses := f6, fd_xhouses := _, u_xhouses := fun_mk (st := s_xhouses) l6 c6 k6, g_xhouses := PySem.W.mg_of X G a6, b_xhouses := (fun_mk (st := s_xhouses) l6 c6 k6).binds (fun _ _ _ _ _ _ us hl => match us, hl with | [_, _, _], _ => rfl),
    a_places_many := f7, fd_places_many := _, u_places_many := fun_mk (st := s_places_many) l7 c7 k7, g_places_many := PySem.W.mg_of X G a7, b_places_many := (fun_mk (st := s_places_many) l7 c7 k7).binds (fun _ _ _ _ _ _ us hl => match us, hl with | [_, _], _ => rfl),
    a_bound_of := f8, fd_bound_of := _, u_bound_of := fun_mk (st := s_bound_of) l8 c8 k8, g_bound_of := PySem.W.mg_of X G a8, b_bound_of := (fun_mk (st := s_bound_of) l8 c8 k8).binds (fun _ _ _ _ _ _ us hl => match us, hl with | [_, _], _ => rfl),
    a_powers_of := f9, fd_powers_of := _, u_powers_of := fun_mk (st := s_powers_of) l9 c9 k9, g_powers_of := PySem.W.mg_of X G a9, b_powers_of := (fun_mk (st := s_powers_of) l9 c9 k9).binds (fun _ _ _ _ _ _ us hl => match us, hl with | [_, _, _], _ => rfl),
    a_places_of := f10, fd_places_of := _, u_places_of := fun_mk (st := s_places_of) l10 c10 k10, g_places_of := PySem.W.mg_of X G a10, b_places_of := (fun_mk (st := s_places_of) l10 c10 k10).binds (fun _ _ _ _ _ _ us hl => match us, hl with | [_], _ => rfl),
    a_times_kept := f11, fd_times_kept := _, u_times_kept := fun_mk (st := s_times_kept) l11 c11 k11, g_times_kept := PySem.W.mg_of X G a11, b_times_kept := (fun_mk (st := s_times_kept) l11 c11 k11).binds (fun _ _ _ _ _ _ us hl => match us, hl with | [_, _, _], _ => rfl),
    a_kept_sums := f12, fd_kept_sums := _, u_kept_sums := fun_mk (st := s_kept_sums) l12 c12 k12, g_kept_sums := PySem.W.mg_of X G a12, b_kept_sums := (fun_mk (st := s_kept_sums) l12 c12 k12).binds (fun _ _ _ _ _ _ us hl => match us, hl with | [_, _], _ => rfl),
    a_with_multiple := f13, fd_with_multiple := _, u_with_multiple := fun_mk (st := s_with_multiple) l13 c13 k13, g_with_multiple := PySem.W.mg_of X G a13, b_with_multiple := (fun_mk (st := s_with_multiple) l13 c13 k13).binds (fun _ _ _ _ _ _ us hl => match us, hl with | [_, _, _, _], _ => rfl),
    a_sums_told := f14, fd_sums_told := _, u_sums_told := fun_mk (st := s_sums_told) l14 c14 k14, g_sums_told := PySem.W.mg_of X G a14, b_sums_told := (fun_mk (st := s_sums_told) l14 c14 k14).binds (fun _ _ _ _ _ _ us hl => match us, hl with | [_, _, _, _], _ => rfl),
    a_own_laying := f15, fd_own_laying := _, u_own_laying := fun_mk (st := s_own_laying) l15 c15 k15, g_own_laying := PySem.W.mg_of X G a15, b_own_laying := (fun_mk (st := s_own_laying) l15 c15 k15).binds (fun _ _ _ _ _ _ us hl => match us, hl with | [_, _], _ => rfl),
    a_xspots := f16, fd_xspots := _, u_xspots := fun_mk (st := s_xspots) l16 c16 k16, g_xspots := PySem.W.mg_of X G a16, b_xspots := (fun_mk (st := s_xspots) l16 c16 k16).binds (fun _ _ _ _ _ _ us hl => match us, hl with | [_], _ => rfl),
    a_xpowers := f17, fd_xpowers := _, u_xpowers := fun_mk (st := s_xpowers) l17 c17 k17, g_xpowers := PySem.W.mg_of X G a17, b_xpowers := (fun_mk (st := s_xpowers) l17 c17 k17).binds (fun _ _ _ _ _ _ us hl => match us, hl with | [_, _, _], _ => rfl),
    a_xtabled := f18, fd_xtabled := _, u_xtabled := fun_mk (st := s_xtabled) l18 c18 k18, g_xtabled := PySem.W.mg_of X G a18, b_xtabled := (fun_mk (st := s_xtabled) l18 c18 k18).binds (fun _ _ _ _ _ _ us hl => match us, hl with | [_, _], _ => rfl),
    a_xkeeps := f19, fd_xkeeps := _, u_xkeeps := fun_mk (st := s_xkeeps) l19 c19 k19, g_xkeeps := PySem.W.mg_of X G a19, b_xkeeps := (fun_mk (st := s_xkeeps) l19 c19 k19).binds (fun _ _ _ _ _ _ us hl => match us, hl with | [_, _, _], _ => rfl),
    a_xsums := f20, fd_xsums := _, u_xsums := fun_mk (st := s_xsums) l20 c20 k20, g_xsums := PySem.W.mg_of X G a20, b_xsums := (fun_mk (st := s_xsums) l20 c20 k20).binds (fun _ _ _ _ _ _ us hl => match us, hl with | [_, _], _ => rfl),
    a_xmix := f21, fd_xmix := _, u_xmix := fun_mk (st := s_xmix) l21 c21 k21, g_xmix := PySem.W.mg_of X G a21, b_xmix := (fun_mk (st := s_xmix) l21 c21 k21).binds (fun _ _ _ _ _ _ us hl => match us, hl with | [_, _, _, _], _ => rfl),
    a_xtold_sum := f22, fd_xtold_sum := _, u_xtold_sum := fun_mk (st := s_xtold_sum) l22 c22 k22, g_xtold_sum := PySem.W.mg_of X G a22, b_xtold_sum := (fun_mk (st := s_xtold_sum) l22 c22 k22).binds (fun _ _ _ _ _ _ us hl => match us, hl with | [_, _, _], _ => rfl),
    a_xown := f23, fd_xown := _, u_xown := fun_mk (st := s_xown) l23 c23 k23, g_xown := PySem.W.mg_of X G a23, b_xown := (fun_mk (st := s_xown) l23 c23 k23).binds (fun _ _ _ _ _ _ us hl => match us, hl with | [_, _], _ => rfl),
    a_is_number := f24, fd_is_number := _, u_is_number := fun_mk (st := s_is_number) l24 c24 k24, g_is_number := PySem.W.mg_of X G a24, b_is_number := (fun_mk (st := s_is_number) l24 c24 k24).binds (fun _ _ _ _ _ _ us hl => match us, hl with | [_], _ => rfl),
    a_is_rest := f25, fd_is_rest := _, u_is_rest := fun_mk (st := s_is_rest) l25 c25 k25, g_is_rest := PySem.W.mg_of X G a25, b_is_rest := (fun_mk (st := s_is_rest) l25 c25 k25).binds (fun _ _ _ _ _ _ us hl => match us, hl with | [_, _], _ => rfl),
    a_is_row := f26, fd_is_row := _, u_is_row := fun_mk (st := s_is_row) l26 c26 k26, g_is_row := PySem.W.mg_of X G a26, b_is_row := (fun_mk (st := s_is_row) l26 c26 k26).binds (fun _ _ _ _ _ _ us hl => match us, hl with | [_, _, _], _ => rfl),
    a_are_rows := f27, fd_are_rows := _, u_are_rows := fun_mk (st := s_are_rows) l27 c27 k27, g_are_rows := PySem.W.mg_of X G a27, b_are_rows := (fun_mk (st := s_are_rows) l27 c27 k27).binds (fun _ _ _ _ _ _ us hl => match us, hl with | [_, _, _, _], _ => rfl),
    a_are_keeps := f28, fd_are_keeps := _, u_are_keeps := fun_mk (st := s_are_keeps) l28 c28 k28, g_are_keeps := PySem.W.mg_of X G a28, b_are_keeps := (fun_mk (st := s_are_keeps) l28 c28 k28).binds (fun _ _ _ _ _ _ us hl => match us, hl with | [_, _, _], _ => rfl),
    a_are_tells := f29, fd_are_tells := _, u_are_tells := fun_mk (st := s_are_tells) l29 c29 k29, g_are_tells := PySem.W.mg_of X G a29, b_are_tells := (fun_mk (st := s_are_tells) l29 c29 k29).binds (fun _ _ _ _ _ _ us hl => match us, hl with | [_, _, _, _], _ => rfl),
    a_is_prime := f30, fd_is_prime := _, u_is_prime := fun_mk (st := s_is_prime) l30 c30 k30, g_is_prime := PySem.W.mg_of X G a30, b_is_prime := (fun_mk (st := s_is_prime) l30 c30 k30).binds (fun _ _ _ _ _ _ us hl => match us, hl with | [_], _ => rfl),
    a_is_laying := f31, fd_is_laying := _, u_is_laying := fun_mk (st := s_is_laying) l31 c31 k31, g_is_laying := PySem.W.mg_of X G a31, b_is_laying := (fun_mk (st := s_is_laying) l31 c31 k31).binds (fun _ _ _ _ _ _ us hl => match us, hl with | [_], _ => rfl),
    a_law := _, fd_law := _, u_law := fun_mk (st := s_law) l32 c32 k32, g_law := PySem.W.mg_of X G a32, b_law := (fun_mk (st := s_law) l32 c32 k32).binds (fun _ _ _ _ _ _ us hl => match us, hl with | [_], _ => rfl),
    m_all := PySem.W.mg_none_of X G z_all,
    m_bool := PySem.W.mg_none_of X G z_bool,
    m_enumerate := PySem.W.mg_none_of X G z_enumerate,
    m_int := PySem.W.mg_none_of X G z_int,
    m_isinstance := PySem.W.mg_none_of X G z_isinstance,
    m_len := PySem.W.mg_none_of X G z_len,
    m_list := PySem.W.mg_none_of X G z_list,
    m_min := PySem.W.mg_none_of X G z_min,
    m_range := PySem.W.mg_none_of X G z_range,
    m_repr := PySem.W.mg_none_of X G z_repr,
    m_sorted := PySem.W.mg_none_of X G z_sorted,
    m_sum := PySem.W.mg_none_of X G z_sum,
    m_tuple := PySem.W.mg_none_of X G z_tuple,
    m_zip := PySem.W.mg_none_of X G z_zip,
    v_PRIMES := .ref e_PRIMES, w_PRIMES := _, g_PRIMES := PySem.W.mg_of X G y_PRIMES, r_PRIMES := rfl, d_PRIMES := dq_ktup q_PRIMES qc_PRIMES qd_PRIMES qs_PRIMES qv_PRIMES,
    v_MOST_COLUMNS := .int 5, w_MOST_COLUMNS := _, g_MOST_COLUMNS := PySem.W.mg_of X G y_MOST_COLUMNS, r_MOST_COLUMNS := ⟨_, rfl⟩, d_MOST_COLUMNS := fun _ => .int 5,
    v_MOST_HIDDEN := .int 24, w_MOST_HIDDEN := _, g_MOST_HIDDEN := PySem.W.mg_of X G y_MOST_HIDDEN, r_MOST_HIDDEN := ⟨_, rfl⟩, d_MOST_HIDDEN := fun _ => .int 24,
    v_FEWEST_HOUSES := .int 2, w_FEWEST_HOUSES := _, g_FEWEST_HOUSES := PySem.W.mg_of X G y_FEWEST_HOUSES, r_FEWEST_HOUSES := ⟨_, rfl⟩, d_FEWEST_HOUSES := fun _ => .int 2,
    v_MOST_HOUSES := .int 8, w_MOST_HOUSES := _, g_MOST_HOUSES := PySem.W.mg_of X G y_MOST_HOUSES, r_MOST_HOUSES := ⟨_, rfl⟩, d_MOST_HOUSES := fun _ => .int 8 }
  exact ⟨PySem.W.fnOf "law" "law" (defArgs s_law) (defBody s_law) (defScope s_law) .none kV32 dc32 pm32 an32 cd32 ct32, fun s v => .of_eq rfl, fun base _ _ => ok_law T⟩
end Lk44

namespace Lk44
open PySem Sm L2
local macro_rules
  | `(tactic| walk_at "le") => `(tactic| ((try simp only [List.length_cons, List.length_nil, List.length_append, List.length_map]); omega))
local macro_rules
  | `(tactic| walk_at "smb") => `(tactic| first
    | with_reducible assumption
    | with_reducible rfl
    | assumption
    | rfl
    | (simp only [decide_eq_true_eq, decide_eq_false_iff_not, beq_iff_eq, Bool.not_eq_true', Bool.not_eq_false', beq_eq_false_iff_ne, Bool.and_eq_true, Bool.or_eq_true, Bool.not_eq_true, Bool.not_eq_false, ne_eq, Bool.and_eq_false_imp, Bool.or_eq_false_iff]; omega))
local macro_rules
  | `(tactic| walk_at "smf") => `(tactic| fail "no call")
local macro_rules
  | `(tactic| walk_at "sml") => `(tactic| first
    | with_reducible assumption
    | with_reducible exact l_add
    | with_reducible exact l_sub
    | with_reducible exact l_eq
    | with_reducible exact l_ne
    | with_reducible exact l_lt
    | with_reducible exact l_le
    | with_reducible exact l_gt
    | with_reducible exact l_ge
    | with_reducible exact l_eqSS
    | with_reducible exact l_neSS
    | with_reducible exact l_eqBS
    | with_reducible exact l_neBS
    | with_reducible exact l_eqB
    | with_reducible exact l_neB
    | with_reducible exact l_eqS
    | with_reducible exact l_neS
    | with_reducible exact l_neg
    | with_reducible exact isi_int _
    | with_reducible exact isi_bool _
    | with_reducible exact isi_tup _
    | with_reducible exact l_lenL
    | with_reducible exact l_lenT
    | with_reducible exact l_slL
    | with_reducible exact l_slT
    | ((with_reducible apply l_mod); (walk_at "smo"))
    | ((with_reducible apply l_mul); (walk_at "smo"))
    | ((with_reducible apply l_div); (walk_at "smo"); (walk_at "smo"))
    | ((with_reducible apply l_addT); rfl)
    | ((with_reducible apply l_addL); rfl)
    | ((with_reducible apply l_ixL); first | assumption | rfl)
    | ((with_reducible apply l_ixT); first | assumption | rfl)
    | ((with_reducible apply one_eq); (walk_at "sml"))
    | with_reducible assumption
    | rfl)
local macro_rules
  | `(tactic| walk_at "smo") => `(tactic| first | assumption | omega)
local macro_rules
  | `(tactic| walk_at "sm") => `(tactic| first
    | with_reducible assumption
    | with_reducible exact aNil_eq
    | with_reducible exact eC_eq
    | with_reducible exact sNext_eq
    | with_reducible exact eD0_eq
    | ((with_reducible apply eD1_eq); (walk_at "sm"))
    | ((with_reducible apply eC_e); rfl)
    | with_reducible exact oNone_eq
    | ((with_reducible apply eVar_eq); rfl)
    | ((with_reducible apply aCons_eq); (walk_at "sm"); (walk_at "sm"))
    | ((with_reducible apply eOp_eq); (walk_at "sm"); (walk_at "sm"); (walk_at "sml"))
    | ((with_reducible apply eUn_eq); (walk_at "sm"); (walk_at "sml"))
    | ((with_reducible apply eCB_eq); (walk_at "sm"); (walk_at "sml"))
    | ((with_reducible apply eCall_eq); (walk_at "sm"); (first | with_reducible assumption | walk_at "smf"))
    | ((with_reducible apply eTup_e); (walk_at "sm"); rfl; rfl)
    | ((with_reducible apply eLst_e); (walk_at "sm"); rfl; rfl)
    | ((with_reducible apply oSome_eq); (walk_at "sm"))
    | ((with_reducible apply eSl_eq); (walk_at "sm"); (walk_at "sm"); (walk_at "sm"); (walk_at "sml"))
    | ((with_reducible apply eNot_eq); (walk_at "sm"))
    | ((with_reducible apply bNot_eq); (walk_at "sm"))
    | ((with_reducible apply bVal_eq); (walk_at "sm"))
    | ((with_reducible apply bTru_b); (walk_at "sm"))
    | ((with_reducible apply eChain_e); (walk_at "sm"); (walk_at "sm"); (walk_at "sml"); (walk_at "sm"); (walk_at "sml"))
    | ((with_reducible apply eChain3_e); (walk_at "sm"); (walk_at "sm"); (walk_at "sml"); (walk_at "sm"); (walk_at "sml"); (walk_at "sm"); (walk_at "sml"))
    | ((with_reducible apply bOr_e); (walk_at "sm"); (first | ((apply ite_T); (walk_at "smb"); rfl) | ((apply ite_F); (walk_at "smb"); (walk_at "sm")) | ((apply or_gen); (walk_at "sm"))))
    | ((with_reducible apply bAnd_e); (walk_at "sm"); (first | ((apply ite_F); (walk_at "smb"); rfl) | ((apply ite_T); (walk_at "smb"); (walk_at "sm")) | ((apply and_gen); (walk_at "sm"))))
    | ((with_reducible apply eOr_e); (walk_at "sm"); (first | ((apply ite_T); (walk_at "smb"); rfl) | ((apply ite_F); (walk_at "smb"); (walk_at "sm")) | ((apply eor_gen); (walk_at "sm"))))
    | ((with_reducible apply eAnd_e); (walk_at "sm"); (first | ((apply ite_F); (walk_at "smb"); rfl) | ((apply ite_T); (walk_at "smb"); (walk_at "sm")) | ((apply eand_gen); (walk_at "sm"))))
    | ((with_reducible apply eIf_e); (walk_at "sm"); (first | ((apply ite_T); (walk_at "smb"); (walk_at "sm")) | ((apply ite_F); (walk_at "smb"); (walk_at "sm"))))
    | ((with_reducible apply sIf_e); (walk_at "sm"); (first | ((apply ite_T); (walk_at "smb"); (walk_at "sm")) | ((apply ite_F); (walk_at "smb"); (walk_at "sm"))))
    | ((with_reducible apply sSeq_e); (walk_at "sm"); (first | with_reducible exact seqK_rt | ((with_reducible apply seqK_nx); (walk_at "sm")) | ((with_reducible refine Eq.trans seqK_rt ?_); rfl)))
    | ((with_reducible apply sRet_eq); (walk_at "sm"))
    | ((with_reducible apply sAsg_eq); (walk_at "sm"); (walk_at "smg"))
    | with_reducible assumption
    | walk_at "smx")
local macro_rules
  | `(tactic| walk_at "smx") => `(tactic| fail "no step")
local macro_rules
  | `(tactic| walk_at "smg") => `(tactic| first
    | ((with_reducible apply gNm_e); ((dsimp only [List.set]) <;> rfl))
    | ((with_reducible apply gTp_e); rfl; ((dsimp only [setAll, List.set]) <;> rfl))
    | rfl)

abbrev dk (cs : List Int) (c : Int) (rs : List Int) (rest : Mem) : Mem := some [ze 0] :: none :: some (rs.map fun z => SV.dat (.int z)) :: some [.dat (.list (cs.map PyData.int)), .dat (.int c), .cel 2] :: rest
abbrev rn (cs : List Int) (c many : Int) : Rho := [some (.cel 3), some (ze many), some (.dat (.list (cs.map PyData.int))), some (ze c), some (.cel 2), none, none, none, none]
theorem sq_le {k c : Int} (hk0 : 0 ≤ k) (hk : k ≤ 8192) (hc0 : 0 ≤ c) (hc : c ≤ 16777216) : 0 ≤ k * c * c ∧ k * c * c ≤ 2305843009213693952 := by
  have h1 : 0 ≤ k * c := Int.mul_nonneg hk0 hc0
  have h2 : k * c ≤ 8192 * 16777216 := Int.mul_le_mul hk hc hc0 (by omega)
  exact ⟨Int.mul_nonneg h1 hc0, Int.le_trans (Int.mul_le_mul h2 hc hc0 (by omega)) (by omega)⟩
section
variable {cs rs : List Int} {c many : Int} {rest : Mem}
theorem nx1 : B_xnext_1 [some (.cel 3), some (ze many), none, none, none, none, none, none, none] (dk cs c rs rest) = some (.nx (rn cs c many) (dk cs c rs rest)) := rfl
theorem nx2 (hl : 0 < cs.length) : B_xnext_2 (rn cs c many) (dk cs c rs rest) = some (.nx ((rn cs c many).set 5 (some (ze (c % (cs.length : Int))))) (dk cs c rs rest)) := by
  refine sAsg_eq (x := ze (c % (cs.length : Int))) (M1 := dk cs c rs rest) (eOp_eq (x := ze c) (y := ze (cs.length : Int)) (M1 := dk cs c rs rest) (M2 := dk cs c rs rest) rfl ?_ (l_mod (by omega))) rfl
  refine eCB_eq (xs := [.dat (.list (cs.map PyData.int))]) rfl ?_
  show some (SV.dat (.int ((cs.map PyData.int).length : Int))) = _
  rw [List.length_map]
theorem nx3 {w : Int} : B_xnext_3 ((rn cs c many).set 5 (some (ze w))) (dk cs c rs rest) = some (.nx ((rn cs c many).set 5 (some (ze w))) (dk cs (c + 1) rs rest)) := rfl
theorem rs_at {c1 : Int} {k : Nat} {z : Int} {ρ : Rho} (h4 : ρ[4]? = some (some (.cel 2))) (h5 : ρ[5]? = some (some (ze (k : Int)))) (hz : rs[k]? = some z) : eOp fIx (eVar 4) (eVar 5) ρ (dk cs c1 rs rest) = some (ze z, dk cs c1 rs rest) := by
  refine eOp_eq (x := .cel 2) (y := ze (k : Int)) (M1 := dk cs c1 rs rest) (M2 := dk cs c1 rs rest) ?_ ?_ ?_
  · simp only [eVar, h4]
  · simp only [eVar, h5]
  · show atI (rs.map fun z => SV.dat (.int z)) (k : Int) = _
    exact atI_in rfl (by rw [List.getElem?_map, hz]; rfl)
theorem nx4t {c1 : Int} {k : Nat} {z : Int} (hz : rs[k]? = some z) (h0 : 0 < z) (hm : 0 < many) (hm2 : many < 2 ^ 64) :
    B_xnext_4 ((rn cs c many).set 5 (some (ze (k : Int)))) (dk cs c1 rs rest) = some (.rt (ze (z % many)) (dk cs c1 (rs.set k (z / many)) rest)) := by
  obtain ⟨hlt, _⟩ := List.getElem?_eq_some_iff.mp hz
  refine sIf_t (M1 := dk cs c1 rs rest) ?_ ?_
  · have h : decide ((0 : Int) < z) = true := decide_eq_true h0
    rw [← h]
    exact bVal_eq (eOp_eq (rs_at rfl rfl hz) rfl l_gt)
  · refine sSeq_nx (M1 := dk cs c1 rs rest) (ρ1 := ((rn cs c many).set 5 (some (ze (k : Int)))).set 6 (some (ze (z % many)))) ?_ (sSeq_nx (M1 := dk cs c1 (rs.set k (z / many)) rest) (ρ1 := ((rn cs c many).set 5 (some (ze (k : Int)))).set 6 (some (ze (z % many)))) ?_ rfl)
    · exact sAsg_eq (x := ze (z % many)) (M1 := dk cs c1 rs rest) (eOp_eq (y := ze many) (M1 := dk cs c1 rs rest) (M2 := dk cs c1 rs rest) (rs_at rfl rfl hz) rfl (l_mod hm)) rfl
    · refine sAsg_eq (x := ze (z / many)) (M1 := dk cs c1 rs rest) (eOp_eq (y := ze many) (M1 := dk cs c1 rs rest) (M2 := dk cs c1 rs rest) (rs_at rfl rfl hz) rfl (l_div hm hm2)) ?_
      show ((ixN (rs.map fun z => SV.dat (.int z)).length (k : Int)).bind fun j => some (_, ((dk cs c1 rs rest).set 2 (some ((rs.map fun z => SV.dat (.int z)).set j (.dat (.int (z / many)))))))) = _
      rw [List.length_map, ixN_in hlt]
      simp [List.map_set]
theorem nx4f {c1 : Int} {k : Nat} {z : Int} (hz : rs[k]? = some z) (h0 : ¬ 0 < z) :
    B_xnext_4 ((rn cs c many).set 5 (some (ze (k : Int)))) (dk cs c1 rs rest) = some (.nx ((rn cs c many).set 5 (some (ze (k : Int)))) (dk cs c1 rs rest)) := by
  refine sIf_f (M1 := dk cs c1 rs rest) ?_ rfl
  have h : decide ((0 : Int) < z) = false := decide_eq_false h0
  rw [← h]
  exact bVal_eq (eOp_eq (rs_at rfl rfl hz) rfl l_gt)
theorem nx57 {c1 : Int} {k : Nat} {z : Int} (hz : cs[k]? = some z) (hc : 0 ≤ c) (hc2 : c ≤ 16777216) (hm : 0 < many) :
    ∃ r, 0 ≤ r ∧ r < many ∧ sSeq B_xnext_5 (sSeq B_xnext_6 B_xnext_7) ((rn cs c many).set 5 (some (ze (k : Int)))) (dk cs c1 rs rest) = some (.rt (ze r) (dk cs c1 rs rest)) := by
  have cz : ∀ ρ : Rho, ρ[2]? = some (some (.dat (.list (cs.map PyData.int)))) → ρ[5]? = some (some (ze (k : Int))) → eOp fIx (eVar 2) (eVar 5) ρ (dk cs c1 rs rest) = some (ze z, dk cs c1 rs rest) := by
    intro ρ h2 h5
    refine eOp_eq (x := .dat (.list (cs.map PyData.int))) (y := ze (k : Int)) (M1 := dk cs c1 rs rest) (M2 := dk cs c1 rs rest) ?_ ?_ ?_
    · simp only [eVar, h2]
    · simp only [eVar, h5]
    · show (atI (cs.map PyData.int) (k : Int)).bind _ = _
      rw [atI_in (x := PyData.int z) rfl (by rw [List.getElem?_map, hz]; rfl)]
      rfl
  have s5 : ∃ m, 0 ≤ m ∧ m < 2147483648 ∧ B_xnext_5 ((rn cs c many).set 5 (some (ze (k : Int)))) (dk cs c1 rs rest) = some (.nx (((rn cs c many).set 5 (some (ze (k : Int)))).set 7 (some (ze m))) (dk cs c1 rs rest)) := by
    refine ⟨(z % _ + _ * c + _) ^ 3 % _, ?_, ?_, sAsg_eq (M1 := dk cs c1 rs rest) (eOp_eq (M1 := dk cs c1 rs rest) (eOp_eq (M1 := dk cs c1 rs rest) (y := .dat (.int ((3 : Nat) : Int))) (eOp_eq (M1 := dk cs c1 rs rest) (eOp_eq (M1 := dk cs c1 rs rest) (eOp_eq (M1 := dk cs c1 rs rest) (cz _ rfl rfl) rfl (l_mod ?_)) (eOp_eq (M1 := dk cs c1 rs rest) (y := ze c) rfl rfl (l_mul ?_)) l_add) rfl l_add) rfl (l_pow ?_ ?_ ?_)) rfl (l_mod ?_)) rfl⟩
    · exact Int.emod_nonneg _ (by decide)
    · exact Int.lt_trans (Int.emod_lt_of_pos _ (by decide)) (by decide)
    · decide
    · left; decide
    · decide
    · omega
    · omega
    · decide
  obtain ⟨m, m0, m1, e5⟩ := s5
  have s6 : ∃ m', 0 ≤ m' ∧ m' < 2147483648 ∧ B_xnext_6 (((rn cs c many).set 5 (some (ze (k : Int)))).set 7 (some (ze m))) (dk cs c1 rs rest) = some (.nx ((((rn cs c many).set 5 (some (ze (k : Int)))).set 7 (some (ze m))).set 8 (some (ze m'))) (dk cs c1 rs rest)) := by
    refine ⟨(m + _ * c * c + _) ^ 3 % _, ?_, ?_, sAsg_eq (M1 := dk cs c1 rs rest) (eOp_eq (M1 := dk cs c1 rs rest) (eOp_eq (M1 := dk cs c1 rs rest) (y := .dat (.int ((3 : Nat) : Int))) (eOp_eq (M1 := dk cs c1 rs rest) (eOp_eq (M1 := dk cs c1 rs rest) (x := ze m) rfl (eOp_eq (M1 := dk cs c1 rs rest) (y := ze c) (eOp_eq (M1 := dk cs c1 rs rest) (y := ze c) rfl rfl (l_mul ?_)) rfl (l_mul ?_)) l_add) rfl l_add) rfl (l_pow ?_ ?_ ?_)) rfl (l_mod ?_)) rfl⟩
    · exact Int.emod_nonneg _ (by decide)
    · exact Int.lt_trans (Int.emod_lt_of_pos _ (by decide)) (by decide)
    · left; decide
    · right; omega
    · decide
    · refine Int.lt_of_lt_of_le (b := 0) (by decide) (Int.add_nonneg (Int.add_nonneg m0 (sq_le ?_ ?_ hc hc2).1) (by decide)) <;> decide
    · refine Int.lt_of_le_of_lt (Int.add_le_add (Int.add_le_add (Int.le_of_lt m1) (sq_le ?_ ?_ hc hc2).2) (Int.le_refl _)) ?_ <;> decide
    · decide
  obtain ⟨m', m2, m3, e6⟩ := s6
  refine ⟨(m' * _ + m) % _ % many, Int.emod_nonneg _ (by omega), Int.emod_lt_of_pos _ hm, sSeq_nx e5 (sSeq_nx e6 (sRet_eq (eOp_eq (M1 := dk cs c1 rs rest) (y := ze many) (eOp_eq (M1 := dk cs c1 rs rest) (eOp_eq (M1 := dk cs c1 rs rest) (y := ze m) (eOp_eq (M1 := dk cs c1 rs rest) (x := ze m') rfl rfl (l_mul ?_)) rfl l_add) rfl (l_mod ?_)) rfl (l_mod hm))))⟩
  · right; decide
  · decide
theorem next_ok (hl : 0 < cs.length) (hr : rs.length = cs.length) (h0 : ∀ z ∈ rs, 0 ≤ z) (hc : 0 ≤ c) (hc2 : c ≤ 16777216) (hm : 0 < many) (hm2 : many < 2 ^ 64) :
    ∃ r rs', 0 ≤ r ∧ r < many ∧ rs'.length = cs.length ∧ (∀ z ∈ rs', 0 ≤ z) ∧ F_xnext [.cel 3, ze many] (dk cs c rs rest) = some (ze r, dk cs (c + 1) rs' rest) := by
  have fin : ∀ r rs', B_xnext [some (.cel 3), some (ze many), none, none, none, none, none, none, none] (dk cs c rs rest) = some (.rt (ze r) (dk cs (c + 1) rs' rest)) → F_xnext [.cel 3, ze many] (dk cs c rs rest) = some (ze r, dk cs (c + 1) rs' rest) := by
    intro r rs' h
    exact mkF_rtL rfl h
  have a1 := Int.emod_nonneg c (b := (cs.length : Int)) (by omega)
  have a2 := Int.emod_lt_of_pos c (b := (cs.length : Int)) (by omega)
  have n2 := nx2 (c := c) (many := many) (rs := rs) (rest := rest) hl
  have hk : c % (cs.length : Int) = (((c % (cs.length : Int)).toNat : Nat) : Int) := by omega
  have hlt : (c % (cs.length : Int)).toNat < cs.length := by omega
  rw [hk] at n2
  generalize (c % (cs.length : Int)).toNat = k at hlt n2
  have hz : rs[k]? = some rs[k] := List.getElem?_eq_getElem (by omega)
  have hz0 : 0 ≤ rs[k] := h0 _ (List.getElem_mem _)
  have hq : cs[k]? = some cs[k] := List.getElem?_eq_getElem hlt
  by_cases hb : 0 < rs[k]
  · refine ⟨rs[k] % many, rs.set k (rs[k] / many), Int.emod_nonneg _ (by omega), Int.emod_lt_of_pos _ hm, by rw [List.length_set]; exact hr, fun z hz' => ?_, fin _ _ (sSeq_nx nx1 (sSeq_nx n2 (sSeq_nx nx3 (sSeq_rt (nx4t hz hb hm hm2)))))⟩
    rcases List.mem_or_eq_of_mem_set hz' with q | q
    · exact h0 z q
    · rw [q]; exact Int.ediv_nonneg hz0 (by omega)
  · obtain ⟨r, h1, h2, h3⟩ := nx57 (cs := cs) (rs := rs) (c := c) (c1 := c + 1) (many := many) (rest := rest) hq hc hc2 hm
    exact ⟨r, rs, h1, h2, hr, h0, fin r rs (sSeq_nx nx1 (sSeq_nx n2 (sSeq_nx nx3 (sSeq_nx (nx4f hz hb) h3))))⟩
end

theorem deck_ok (ns : List Int) (hn : ns.length ≤ 63) : ∃ cs rs, 0 < cs.length ∧ rs.length = cs.length ∧ (∀ z ∈ rs, 0 ≤ z) ∧ F_xdraws [.dat (.list (ns.map PyData.int))] [] = some (.cel 3, dk cs 0 rs []) := by
  by_cases h0 : ns = []
  · subst h0
    exact ⟨[0], [0], by decide, rfl, fun z hz => by rw [List.mem_singleton] at hz; omega, rfl⟩
  have hl : 0 < ns.length := List.length_pos_iff.mpr h0
  refine ⟨ns, ns.map fun z => z * (if 1000000000000000000 ≤ z then 1 else 0), hl, List.length_map _, fun z hz => ?_, ?_⟩
  · obtain ⟨y, _, rfl⟩ := List.mem_map.mp hz
    split <;> omega
  have cut : cutD (ns.map PyData.int) none (some 63) = ns.map PyData.int := by
    unfold cutD
    have e1 : HT.sIx (ns.map PyData.int).length 0 none = 0 := rfl
    have e2 : HT.sIx (ns.map PyData.int).length (ns.map PyData.int).length (some 63) = min 63 (ns.map PyData.int).length := HT.sIx_nat _ _ 63
    rw [e1, e2, List.drop_zero, Nat.sub_zero]
    apply List.take_of_length_le
    rw [List.length_map]; omega
  have lc : lcL (gNm 2) bYes (eOp (lift2 dMul) (eVar 2) (eCB (one (lift1 dInt)) (aCons (eOp (lift2 dGe) (eVar 2) (eOp (lift2 dPow) (eC (.int 10)) (eC (.int 18)))) aNil))) [some (.dat (.list (ns.map PyData.int))), some (.dat (.list (ns.map PyData.int))), none] (ns.map PyData.int) [some [ze 0], none] = some ((ns.map PyData.int).map (fun d => match d with | .int z => .int (z * (if 1000000000000000000 ≤ z then 1 else 0)) | _ => .none), [some [ze 0], none]) := by
    refine lcL_map _ fun d hd => ?_
    obtain ⟨z, _, rfl⟩ := List.mem_map.mp hd
    refine ⟨_, rfl, ?_⟩
    have t : lift2 dGe [some [ze 0], none] (ze z) (ze (10 ^ 18)) = some (.dat (.bool (decide (10 ^ 18 ≤ z)))) := l_ge
    have p : lift2 dPow [some [ze 0], none] (ze 10) (.dat (.int ((18 : Nat) : Int))) = some (ze (10 ^ 18)) := l_pow (by decide) (by decide) (by decide)
    have i : lift1 dInt [some [ze 0], none] (.dat (.bool (decide ((10 : Int) ^ 18 ≤ z)))) = some (ze (if 1000000000000000000 ≤ z then 1 else 0)) := by
      by_cases q : (1000000000000000000 : Int) ≤ z
      · rw [if_pos q, decide_eq_true (show (10 : Int) ^ 18 ≤ z from q)]; rfl
      · rw [if_neg q, decide_eq_false (show ¬ (10 : Int) ^ 18 ≤ z from q)]; rfl
    exact eOp_eq (x := ze z) (M1 := [some [ze 0], none]) rfl (eCB_eq (aCons_eq (eOp_eq (x := ze z) (M1 := [some [ze 0], none]) rfl (eOp_eq (x := ze 10) (M1 := [some [ze 0], none]) rfl rfl p) t) rfl) i) (l_mul (.inr (by split <;> decide)))
  rw [List.map_map] at lc
  have b1 : B_xdraws_1 [some (.dat (.list (ns.map PyData.int))), none, none] [] = some (.nx [some (.dat (.list (ns.map PyData.int))), some (.dat (.list (ns.map PyData.int))), none] [some [ze 0], none]) := by
    have e1 : eCB (one fList) (aCons (eSl fSl (eVar 0) oNone (oSome (eC (.int 63)))) aNil) [some (.dat (.list (ns.map PyData.int))), none, none] [] = some (.dat (.list (ns.map PyData.int)), []) := by
      show some (SV.dat (.list (cutD (ns.map PyData.int) none (some 63))), []) = _
      rw [cut]
    have e3 : lift2 dEq [some [ze 0]] (ze (ns.map PyData.int).length) (ze 0) = some (.dat (.bool false)) := by
      rw [l_eq, List.length_map]
      have : ((ns.length : Int) == 0) = false := beq_eq_false_iff_ne.mpr (by omega)
      rw [this]
    have e2 : eFrz (eRepN (eNew (aCons (eC (.int 0)) aNil)) (eCB (one (lift1 dInt)) (aCons (eOp (lift2 dEq) (eCB (one fLen) (aCons (eVar 0) aNil)) (eC (.int 0))) aNil))) [some (.dat (.list (ns.map PyData.int))), none, none] [] = some (.dat (.list []), [some [ze 0], none]) := by
      have e4 : eCB (one (lift1 dInt)) (aCons (eOp (lift2 dEq) (eCB (one fLen) (aCons (eVar 0) aNil)) (eC (.int 0))) aNil) [some (.dat (.list (ns.map PyData.int))), none, none] [some [ze 0]] = some (ze 0, [some [ze 0]]) :=
        eCB_eq (aCons_eq (eOp_eq (x := ze (ns.map PyData.int).length) (y := ze 0) (M1 := [some [ze 0]]) (M2 := [some [ze 0]]) rfl rfl e3) rfl) rfl
      have e5 : eRepN (eNew (aCons (eC (.int 0)) aNil)) (eCB (one (lift1 dInt)) (aCons (eOp (lift2 dEq) (eCB (one fLen) (aCons (eVar 0) aNil)) (eC (.int 0))) aNil)) [some (.dat (.list (ns.map PyData.int))), none, none] [] = some (.cel 1, [some [ze 0], some []]) := by
        have e6 : eNew (aCons (eC (.int 0)) aNil) [some (.dat (.list (ns.map PyData.int))), none, none] [] = some (.cel 0, [some [ze 0]]) := rfl
        unfold eRepN
        simp only [e6, Option.bind_some, e4]
        rfl
      unfold eFrz
      rw [e5]
      rfl
    refine sAsg_eq (x := .dat (.list (ns.map PyData.int))) (M1 := [some [ze 0], none]) (eOp_eq e1 e2 ?_) rfl
    rw [l_addL (by rw [List.length_map]; exact Nat.ble_eq_true_of_le (by simp; omega)), List.append_nil]
  have el : eLcN (iDat (eVar 1)) (gNm 2) bYes (eOp (lift2 dMul) (eVar 2) (eCB (one (lift1 dInt)) (aCons (eOp (lift2 dGe) (eVar 2) (eOp (lift2 dPow) (eC (.int 10)) (eC (.int 18)))) aNil))) [2] [some (.dat (.list (ns.map PyData.int))), some (.dat (.list (ns.map PyData.int))), none] [some [ze 0], none] = some (.cel 2, [some [ze 0], none, some ((ns.map fun z => z * (if 1000000000000000000 ≤ z then 1 else 0)).map fun z => SV.dat (.int z))]) := by
    unfold eLcN
    show (if (ns.map PyData.int).length ≤ 100000 then (lcL (gNm 2) bYes (eOp (lift2 dMul) (eVar 2) (eCB (one (lift1 dInt)) (aCons (eOp (lift2 dGe) (eVar 2) (eOp (lift2 dPow) (eC (.int 10)) (eC (.int 18)))) aNil))) [some (.dat (.list (ns.map PyData.int))), some (.dat (.list (ns.map PyData.int))), none] (ns.map PyData.int) [some [ze 0], none]).bind _ else none) = _
    rw [if_pos (by rw [List.length_map]; omega), lc]
    show some (SV.cel 2, [some [ze 0], none, some ((ns.map _).map SV.dat)]) = _
    rw [List.map_map, List.map_map]
    rfl
  have fin := eNew_eq (aCons_eq (a := eVar 1) (x := .dat (.list (ns.map PyData.int))) (M1 := [some [ze 0], none]) rfl (aCons_eq (a := eC (.int 0)) (x := ze 0) (M1 := [some [ze 0], none]) rfl (aCons_eq (as := aNil) (xs := []) el rfl))) (show 3 ≤ 100000 by omega)
  exact mkF_c (sSeq_nx b1 (sRet_eq fin))
/-! ### what is drawn -/
def Gd (rest : Mem) (b : Int) (M : Mem) : Prop := ∃ cs c rs, M = dk cs c rs rest ∧ 0 < cs.length ∧ rs.length = cs.length ∧ (∀ z ∈ rs, 0 ≤ z) ∧ 0 ≤ c ∧ c ≤ b
theorem Gd.up {rest : Mem} {b b' : Int} {M : Mem} (h : Gd rest b M) (hb : b ≤ b') : Gd rest b' M := by
  obtain ⟨cs, c, rs, e, h0, h1, h2, h3, h4⟩ := h
  exact ⟨cs, c, rs, e, h0, h1, h2, h3, by omega⟩
theorem Gd.len {rest : Mem} {b b' : Int} {M M' : Mem} (h : Gd rest b M) (h' : Gd rest b' M') : M'.length = M.length := by
  obtain ⟨cs, c, rs, rfl, _⟩ := h
  obtain ⟨cs', c', rs', rfl, _⟩ := h'
  rfl
theorem next_g {rest : Mem} {b many : Int} {M : Mem} (h : Gd rest b M) (hb : b < 16777216) (hm : 0 < many) (hm2 : many < 2 ^ 64) :
    ∃ r M', F_xnext [.cel 3, ze many] M = some (ze r, M') ∧ 0 ≤ r ∧ r < many ∧ Gd rest (b + 1) M' := by
  obtain ⟨cs, c, rs, rfl, h0, h1, h2, h3, h4⟩ := h
  obtain ⟨r, rs', r1, r2, r3, r4, e⟩ := next_ok (rest := rest) (many := many) h0 h1 h2 h3 (by omega) hm hm2
  exact ⟨r, _, e, r1, r2, cs, c + 1, rs', rfl, h0, r3, r4, by omega, by omega⟩
theorem start_g (ns : List Int) (hn : ns.length ≤ 63) : ∃ M, F_xdraws [.dat (.list (ns.map PyData.int))] [] = some (.cel 3, M) ∧ Gd [] 0 M := by
  obtain ⟨cs, rs, h0, h1, h2, e⟩ := deck_ok ns hn
  exact ⟨_, e, cs, 0, rs, rfl, h0, h1, h2, by decide, by decide⟩

/-! ### lists that grow beside the second deck -/
section
variable {rest : Mem} {F : Option (List SV)} {b : Int} {M : Mem}
theorem gd_len (h : Gd rest b M) : M.length = rest.length + 4 := by
  obtain ⟨cs, c, rs, rfl, _⟩ := h
  rfl
theorem gd_new (h : Gd rest b M) (F : Option (List SV)) : Gd (rest ++ [F]) b (M ++ [F]) := by
  obtain ⟨cs, c, rs, rfl, h⟩ := h
  exact ⟨cs, c, rs, rfl, h⟩
theorem gd_get (h : Gd (rest ++ [F]) b M) : M[rest.length + 4]? = some F := by
  obtain ⟨cs, c, rs, rfl, _⟩ := h
  show (rest ++ [F])[rest.length]? = some F
  rw [List.getElem?_append_right (Nat.le_refl _), Nat.sub_self]; rfl
theorem gd_set (h : Gd (rest ++ [F]) b M) (v : Option (List SV)) : Gd (rest ++ [v]) b (M.set (rest.length + 4) v) := by
  obtain ⟨cs, c, rs, rfl, h⟩ := h
  refine ⟨cs, c, rs, ?_, h⟩
  show _ :: _ :: _ :: _ :: (rest ++ [F]).set rest.length v = _
  rw [List.set_append_right _ _ (Nat.le_refl _), Nat.sub_self]; rfl
theorem gd_cut (h : Gd (rest ++ [F]) b M) : Gd rest b (M.take (rest.length + 4)) := by
  obtain ⟨cs, c, rs, rfl, h⟩ := h
  refine ⟨cs, c, rs, ?_, h⟩
  show _ :: _ :: _ :: _ :: (rest ++ [F]).take rest.length = _
  rw [List.take_left']
  rfl
theorem grow {ρ : Rho} {i : Nat} {el : SE} {d : PyData} {ds : List PyData} {b1 : Int} {M1 : Mem} (h : Gd (rest ++ [cd ds]) b M) (hv : ρ[i]? = some (some (.cel (rest.length + 4)))) (he : el ρ M = some (.dat d, M1)) (h1 : Gd (rest ++ [cd ds]) b1 M1) (hl : ds.length < 1000) :
    ∃ M', sApp (eVar i) el ρ M = some (.nx ρ M') ∧ Gd (rest ++ [cd (ds ++ [d])]) b1 M' := by
  refine ⟨_, sApp_eq (o := eVar i) (i := rest.length + 4) (M1 := M) (eVar_eq hv) he (gd_get h) (gd_get h1) (by rw [List.length_map]; omega), ?_⟩
  have := gd_set h1 (cd (ds ++ [d]))
  have e2 : cd (ds ++ [d]) = some (ds.map SV.dat ++ [SV.dat d]) := by simp [cd]
  rw [e2] at this ⊢
  exact this
theorem held {ρ ρ' : Rho} {i : Nat} {s : SS} {ds : List PyData} {M' : Mem} (hs : s ρ M = some (.nx ρ' M')) (h : Gd (rest ++ [cd ds]) b M') (hv : ρ'[i]? = some (some (.cel (rest.length + 4)))) :
    sFrz i s ρ M = some (.nx (ρ'.set i (some (.dat (.list ds)))) (M'.set (rest.length + 4) none)) ∧ Gd (rest ++ [none]) b (M'.set (rest.length + 4) none) :=
  ⟨sFrz_eq hs hv (gd_get h) (dats_map ds), gd_set h none⟩
end

end Lk44

namespace Lk44
open PySem Sm L2
local macro_rules
  | `(tactic| walk_at "le") => `(tactic| ((try simp only [List.length_cons, List.length_nil, List.length_append, List.length_map]); omega))
local macro_rules
  | `(tactic| walk_at "smb") => `(tactic| first
    | with_reducible assumption
    | with_reducible rfl
    | assumption
    | rfl
    | (simp only [decide_eq_true_eq, decide_eq_false_iff_not, beq_iff_eq, Bool.not_eq_true', Bool.not_eq_false', beq_eq_false_iff_ne, Bool.and_eq_true, Bool.or_eq_true, Bool.not_eq_true, Bool.not_eq_false, ne_eq, Bool.and_eq_false_imp, Bool.or_eq_false_iff]; omega))
local macro_rules
  | `(tactic| walk_at "smf") => `(tactic| fail "no call")
local macro_rules
  | `(tactic| walk_at "sml") => `(tactic| first
    | with_reducible assumption
    | with_reducible exact l_add
    | with_reducible exact l_sub
    | with_reducible exact l_eq
    | with_reducible exact l_ne
    | with_reducible exact l_lt
    | with_reducible exact l_le
    | with_reducible exact l_gt
    | with_reducible exact l_ge
    | with_reducible exact l_eqSS
    | with_reducible exact l_neSS
    | with_reducible exact l_eqBS
    | with_reducible exact l_neBS
    | with_reducible exact l_eqB
    | with_reducible exact l_neB
    | with_reducible exact l_eqS
    | with_reducible exact l_neS
    | with_reducible exact l_neg
    | with_reducible exact isi_int _
    | with_reducible exact isi_bool _
    | with_reducible exact isi_tup _
    | with_reducible exact l_lenL
    | with_reducible exact l_lenT
    | with_reducible exact l_slL
    | with_reducible exact l_slT
    | ((with_reducible apply l_mod); (walk_at "smo"))
    | ((with_reducible apply l_mul); (walk_at "smo"))
    | ((with_reducible apply l_div); (walk_at "smo"); (walk_at "smo"))
    | ((with_reducible apply l_addT); rfl)
    | ((with_reducible apply l_addL); rfl)
    | ((with_reducible apply l_ixL); first | assumption | rfl)
    | ((with_reducible apply l_ixT); first | assumption | rfl)
    | ((with_reducible apply one_eq); (walk_at "sml"))
    | with_reducible assumption
    | rfl)
local macro_rules
  | `(tactic| walk_at "smo") => `(tactic| first | assumption | omega)
local macro_rules
  | `(tactic| walk_at "sm") => `(tactic| first
    | with_reducible assumption
    | with_reducible exact aNil_eq
    | with_reducible exact eC_eq
    | with_reducible exact sNext_eq
    | with_reducible exact eD0_eq
    | ((with_reducible apply eD1_eq); (walk_at "sm"))
    | ((with_reducible apply eC_e); rfl)
    | with_reducible exact oNone_eq
    | ((with_reducible apply eVar_eq); rfl)
    | ((with_reducible apply aCons_eq); (walk_at "sm"); (walk_at "sm"))
    | ((with_reducible apply eOp_eq); (walk_at "sm"); (walk_at "sm"); (walk_at "sml"))
    | ((with_reducible apply eUn_eq); (walk_at "sm"); (walk_at "sml"))
    | ((with_reducible apply eCB_eq); (walk_at "sm"); (walk_at "sml"))
    | ((with_reducible apply eCall_eq); (walk_at "sm"); (first | with_reducible assumption | walk_at "smf"))
    | ((with_reducible apply eTup_e); (walk_at "sm"); rfl; rfl)
    | ((with_reducible apply eLst_e); (walk_at "sm"); rfl; rfl)
    | ((with_reducible apply oSome_eq); (walk_at "sm"))
    | ((with_reducible apply eSl_eq); (walk_at "sm"); (walk_at "sm"); (walk_at "sm"); (walk_at "sml"))
    | ((with_reducible apply eNot_eq); (walk_at "sm"))
    | ((with_reducible apply bNot_eq); (walk_at "sm"))
    | ((with_reducible apply bVal_eq); (walk_at "sm"))
    | ((with_reducible apply bTru_b); (walk_at "sm"))
    | ((with_reducible apply eChain_e); (walk_at "sm"); (walk_at "sm"); (walk_at "sml"); (walk_at "sm"); (walk_at "sml"))
    | ((with_reducible apply eChain3_e); (walk_at "sm"); (walk_at "sm"); (walk_at "sml"); (walk_at "sm"); (walk_at "sml"); (walk_at "sm"); (walk_at "sml"))
    | ((with_reducible apply bOr_e); (walk_at "sm"); (first | ((apply ite_T); (walk_at "smb"); rfl) | ((apply ite_F); (walk_at "smb"); (walk_at "sm")) | ((apply or_gen); (walk_at "sm"))))
    | ((with_reducible apply bAnd_e); (walk_at "sm"); (first | ((apply ite_F); (walk_at "smb"); rfl) | ((apply ite_T); (walk_at "smb"); (walk_at "sm")) | ((apply and_gen); (walk_at "sm"))))
    | ((with_reducible apply eOr_e); (walk_at "sm"); (first | ((apply ite_T); (walk_at "smb"); rfl) | ((apply ite_F); (walk_at "smb"); (walk_at "sm")) | ((apply eor_gen); (walk_at "sm"))))
    | ((with_reducible apply eAnd_e); (walk_at "sm"); (first | ((apply ite_F); (walk_at "smb"); rfl) | ((apply ite_T); (walk_at "smb"); (walk_at "sm")) | ((apply eand_gen); (walk_at "sm"))))
    | ((with_reducible apply eIf_e); (walk_at "sm"); (first | ((apply ite_T); (walk_at "smb"); (walk_at "sm")) | ((apply ite_F); (walk_at "smb"); (walk_at "sm"))))
    | ((with_reducible apply sIf_e); (walk_at "sm"); (first | ((apply ite_T); (walk_at "smb"); (walk_at "sm")) | ((apply ite_F); (walk_at "smb"); (walk_at "sm"))))
    | ((with_reducible apply sSeq_e); (walk_at "sm"); (first | with_reducible exact seqK_rt | ((with_reducible apply seqK_nx); (walk_at "sm")) | ((with_reducible refine Eq.trans seqK_rt ?_); rfl)))
    | ((with_reducible apply sRet_eq); (walk_at "sm"))
    | ((with_reducible apply sAsg_eq); (walk_at "sm"); (walk_at "smg"))
    | with_reducible assumption
    | walk_at "smx")
local macro_rules
  | `(tactic| walk_at "smx") => `(tactic| fail "no step")
local macro_rules
  | `(tactic| walk_at "smg") => `(tactic| first
    | ((with_reducible apply gNm_e); ((dsimp only [List.set]) <;> rfl))
    | ((with_reducible apply gTp_e); rfl; ((dsimp only [setAll, List.set]) <;> rfl))
    | rfl)

/-! ### the second deck: what most laws draw -/
def prl : List Int := [11, 13, 17, 19, 23, 29, 31, 37, 41, 43, 47, 53, 59, 61, 67, 71, 73, 79, 83, 89, 97, 101, 103, 107, 109, 113, 127, 131, 137, 139, 149, 151, 157, 163, 167, 173, 179, 181, 191, 193, 197, 199, 211]
theorem prl_P : ∀ p ∈ prl, PrP p.toNat := by
  have h : ∀ p ∈ prl.map Int.toNat, 2 ≤ p ∧ p < 1000 ∧ ∀ a : Nat, a < p → 0 < a → Nat.gcd p a = 1 := by decide +kernel
  intro p hp
  obtain ⟨h1, h2, h3⟩ := h p.toNat (List.mem_map.mpr ⟨p, hp, rfl⟩)
  exact ⟨h1, h2, fun a h0 h => h3 a h h0⟩
theorem prl_b : ∀ p ∈ prl, 11 ≤ p ∧ p ≤ 211 := by decide +kernel
theorem prl_nat {p : Int} (h : p ∈ prl) : ∃ q : Nat, p = (q : Int) ∧ PrP q ∧ 11 ≤ q ∧ q ≤ 211 := by
  have b := prl_b p h
  exact ⟨p.toNat, by omega, prl_P p h, by omega, by omega⟩
section
variable {rest : Mem} {b : Int} {M : Mem}
theorem next_n (h : Gd rest b M) (hb : b < 16777216) {many : Nat} (hm : 0 < many) (hm2 : many < 2 ^ 60) : ∃ (r : Nat) (M' : Mem), F_xnext [.cel 3, ze (many : Int)] M = some (ze (r : Int), M') ∧ r < many ∧ Gd rest (b + 1) M' := by
  obtain ⟨r, M1, e, r0, r1, h1⟩ := next_g (many := (many : Int)) h hb (by omega) (by omega)
  exact ⟨r.toNat, M1, by rw [Int.toNat_of_nonneg r0]; exact e, by omega, h1⟩
theorem one_okD (h : Gd rest b M) (hb : b < 16777216) {d : PyData} {ds : List PyData} (hd : seqD d = some ds) (h0 : 0 < ds.length) (h1 : ds.length < 2 ^ 60) : ∃ (r : Nat) (x : PyData) (M' : Mem), ds[r]? = some x ∧ F_xone [.cel 3, .dat d] M = some (.dat x, M') ∧ Gd rest (b + 1) M' := by
  obtain ⟨r, M1, e, r1, g1⟩ := next_n h hb h0 h1
  have hl : fLen M (.dat d) = some (ze (ds.length : Int)) := by
    cases d <;> simp only [seqD] at hd <;> first | (cases hd; done) | (injection hd with hd; subst hd; rfl)
  have hx : ds[r]? = some ds[r] := List.getElem?_eq_getElem r1
  have hi : fIx M1 (.dat d) (ze (r : Int)) = some (.dat ds[r]) := by
    cases d <;> simp only [seqD] at hd <;> first | (cases hd; done) | (injection hd with hd; subst hd; first | exact l_ixL (atI_in rfl hx) | exact l_ixT (atI_in rfl hx))
  refine ⟨r, ds[r], M1, hx, mkF_rtL (h.len g1) ?_, g1⟩
  exact sRet_eq (eOp_eq (M1 := M) (M2 := M1) (x := .dat d) (y := ze (r : Int)) rfl (eCall_eq (M1 := M) (xs := [.cel 3, ze (ds.length : Int)]) (aCons_eq (x := .cel 3) (M1 := M) rfl (aCons_eq (M1 := M) (eCB_eq (M1 := M) (xs := [.dat d]) rfl hl) rfl)) e) hi)
theorem xprimes (M : Mem) : B_xprime_1 [some (.cel 3), none, none, none] M = some (.nx [some (.cel 3), some (.dat (.list (prl.map PyData.int))), none, none] M) := by kernel_rfl
theorem prime_okN (h : Gd rest b M) (hb : b < 16000000) : ∃ p M', F_xprime [.cel 3] M = some (ze p, M') ∧ p ∈ prl ∧ Gd rest (b + 2) M' := by
  obtain ⟨r0, x, M1, hx, e1, h1⟩ := one_okD h (by omega) (d := .list (prl.map PyData.int)) rfl (by decide) (by decide)
  obtain ⟨r, M2, e2, r1, h2⟩ := next_n (many := 5) h1 (by omega) (by omega) (by omega)
  have hxp : ∃ z ∈ prl, x = .int z := by
    have := List.mem_of_getElem? hx
    obtain ⟨z, hz, e⟩ := List.mem_map.mp this
    exact ⟨z, hz, e.symm⟩
  obtain ⟨z, hz, rfl⟩ := hxp
  have key : ∃ p, [PyData.int 11, .int 11, .int 211, .int 13, .int z][r]? = some (.int p) ∧ p ∈ prl := by
    have : r = 0 ∨ r = 1 ∨ r = 2 ∨ r = 3 ∨ r = 4 := by omega
    rcases this with rfl | rfl | rfl | rfl | rfl
    · exact ⟨11, rfl, by decide⟩
    · exact ⟨11, rfl, by decide⟩
    · exact ⟨211, rfl, by decide⟩
    · exact ⟨13, rfl, by decide⟩
    · exact ⟨z, rfl, hz⟩
  obtain ⟨p, k1, k2⟩ := key
  refine ⟨p, M2, mkF_rtL (h.len h2) (sSeq_nx (xprimes M) (sRet_eq (eOp_eq (M1 := M1) (M2 := M2) (x := .dat (.list [.int 11, .int 11, .int 211, .int 13, .int z])) (y := ze (r : Int)) ?_ ?_ (l_ixL (atI_in rfl k1))))), k2, h2.up (by omega)⟩
  · exact eLst_eq (xs := [ze 11, ze 11, ze 211, ze 13, ze z]) (aCons_eq (M1 := M) rfl (aCons_eq (M1 := M) rfl (aCons_eq (M1 := M) rfl (aCons_eq (M1 := M) rfl (aCons_eq (M1 := M1) (eCall_eq (M1 := M) (xs := [.cel 3, .dat (.list (prl.map PyData.int))]) rfl e1) rfl))))) rfl (show 5 ≤ 100000 by omega)
  · exact eCall_eq (M1 := M1) (xs := [.cel 3, ze (5 : Int)]) rfl e2
theorem shape_okN (h : Gd rest b M) (hb : b < 15000000) {w : Nat} (hw : 1 ≤ w) (hw2 : w ≤ 1000) : ∃ (p : Int) (k d l : Nat) (M' : Mem), F_xshape [.cel 3, ze (w : Int)] M = some (.dat (shD p k d l), M') ∧ p ∈ prl ∧ 1 ≤ k ∧ k ≤ d ∧ d ≤ w ∧ l < k ∧ Gd rest (b + 5) M' := by
  obtain ⟨r1, M1, e1, a1, h1⟩ := next_n h (by omega) (many := w) (by omega) (by omega)
  obtain ⟨r2, M2, e2, a2, h2⟩ := next_n h1 (by omega) (many := 1 + r1) (by omega) (by omega)
  obtain ⟨p, M3, e3, a3, h3⟩ := prime_okN h2 (by omega)
  obtain ⟨r4, M4, e4, a4, h4⟩ := next_n h3 (by omega) (many := 1 + r2) (by omega) (by omega)
  refine ⟨p, 1 + r2, 1 + r1, r4, M4, mkF_rtL (h.len h4) ?_, a3, by omega, by omega, by omega, by omega, h4.up (by omega)⟩
  refine sSeq_nx (M1 := M1) (ρ1 := [some (.cel 3), some (ze (w : Int)), some (ze ((1 + r1 : Nat) : Int)), none]) (sAsg_eq (M1 := M1) (eOp_eq (M1 := M) (M2 := M1) (x := ze 1) (y := ze (r1 : Int)) rfl (eCall_eq (M1 := M) (xs := [.cel 3, ze (w : Int)]) rfl e1) l_add) ?_) ?_
  · rw [Int.natCast_add]; rfl
  refine sSeq_nx (M1 := M2) (ρ1 := [some (.cel 3), some (ze (w : Int)), some (ze ((1 + r1 : Nat) : Int)), some (ze ((1 + r2 : Nat) : Int))]) (sAsg_eq (M1 := M2) (eOp_eq (M1 := M1) (M2 := M2) (x := ze 1) (y := ze (r2 : Int)) rfl (eCall_eq (M1 := M1) (xs := [.cel 3, ze ((1 + r1 : Nat) : Int)]) rfl e2) l_add) ?_) ?_
  · rw [Int.natCast_add]; rfl
  exact sRet_eq (eTup_eq (xs := [ze p, ze ((1 + r2 : Nat) : Int), ze ((1 + r1 : Nat) : Int), ze (r4 : Int)]) (aCons_eq (M1 := M3) (eCall_eq (M1 := M2) (xs := [.cel 3]) rfl e3) (aCons_eq (M1 := M3) rfl (aCons_eq (M1 := M3) rfl (aCons_eq (M1 := M4) (eCall_eq (M1 := M3) (xs := [.cel 3, ze ((1 + r2 : Nat) : Int)]) rfl e4) rfl)))) rfl (show 4 ≤ 100000 by omega))
/-! unlike rests, rising -/
theorem lrN_i {e : SE} {ρ : Rho} {M : Mem} {j : Int} (he : e ρ M = some (ze j, M)) (h1 : -(2 ^ 20) ≤ j) (h2 : j < 2 ^ 20) : eLrN e ρ M = some (.cel M.length, M ++ [some ((rangeD 0 j).map SV.dat)]) := by
  unfold eLrN
  rw [he]
  simp only [Option.bind_some, intV]
  rw [if_pos ⟨h1, h2⟩]
theorem popsN {o0 o1 o2 o4 : Option SV} (h0 : o0 = some (.cel 3)) : ∀ (ds : List PyData) (left : List Int) (b : Int) (M : Mem), Gd (rest ++ [cd (left.map PyData.int)]) b M → b + ds.length < 16000000 → left.length < 1000 → ds.length ≤ left.length →
    ∃ (out left' : List Int) (M' : Mem), lcL (gNm 4) bYes (ePop (eVar 3) (eCall F_xnext (aCons (eVar 0) (aCons (eCB (one fLen) (aCons (eVar 3) aNil)) aNil)))) [o0, o1, o2, some (.cel (rest.length + 4)), o4] ds M = some (out.map PyData.int, M') ∧ out.length = ds.length ∧ (out ++ left').Perm left ∧ Gd (rest ++ [cd (left'.map PyData.int)]) (b + ds.length) M'
  | [], left, b, M, h, _, _, _ => ⟨[], left, M, rfl, rfl, List.Perm.refl _, h.up (by simp)⟩
  | d :: ds, left, b, M, h, hb, hl, hn => by
    rw [List.length_cons] at hb hn
    subst h0
    obtain ⟨m, M1, e1, hlt, h1⟩ := next_n (many := left.length) h (by push_cast at hb; omega) (by omega) (by omega)
    have g1 := gd_get h1
    have len : fLen M (.cel (rest.length + 4)) = some (ze (left.length : Int)) := by
      simp only [fLen, gd_get h, List.length_map]
    have el : ePop (eVar 3) (eCall F_xnext (aCons (eVar 0) (aCons (eCB (one fLen) (aCons (eVar 3) aNil)) aNil))) [some (.cel 3), o1, o2, some (.cel (rest.length + 4)), some (.dat d)] M = some (ze left[m], M1.set (rest.length + 4) (cd ((left.eraseIdx m).map PyData.int))) := by
      have ec : eCall F_xnext (aCons (eVar 0) (aCons (eCB (one fLen) (aCons (eVar 3) aNil)) aNil)) [some (.cel 3), o1, o2, some (.cel (rest.length + 4)), some (.dat d)] M = some (ze (m : Int), M1) := by
        refine eCall_eq (xs := [.cel 3, ze (left.length : Int)]) (aCons_eq (x := .cel 3) (M1 := M) rfl (aCons_eq (eCB_eq (M1 := M) (xs := [.cel (rest.length + 4)]) rfl len) rfl)) e1
      have ev : eVar 3 [some (.cel 3), o1, o2, some (.cel (rest.length + 4)), some (.dat d)] M = some (.cel (rest.length + 4), M) := rfl
      have e4 : ixN (List.map SV.dat (List.map PyData.int left)).length (m : Int) = some m := by
        rw [List.length_map, List.length_map]; exact ixN_in hlt
      have e5 : (List.map SV.dat (List.map PyData.int left))[m]? = some (ze left[m]) := by
        rw [List.getElem?_map, List.getElem?_map, List.getElem?_eq_getElem hlt]; rfl
      have e6 : -(2 ^ 63) ≤ (m : Int) ∧ (m : Int) < 2 ^ 63 := by omega
      unfold ePop
      simp only [ev, ec, Option.bind_some, gd_get h, g1, e6, and_self, if_true, e4, e5, map_erase]
    have h2 := gd_set h1 (cd ((left.eraseIdx m).map PyData.int))
    have hle : (left.eraseIdx m).length = left.length - 1 := List.length_eraseIdx_of_lt hlt
    obtain ⟨out, left', M', e3, l1, l2, h3⟩ := popsN (o0 := some (.cel 3)) (o1 := o1) (o2 := o2) (o4 := o4) rfl ds (left.eraseIdx m) (b + 1) _ h2 (by push_cast at hb; omega) (by omega) (by omega)
    refine ⟨left[m] :: out, left', M', lcL_cons rfl el e3, by simp [l1], ?_, h3.up (by rw [List.length_cons]; push_cast; omega)⟩
    rw [List.cons_append]
    exact (List.Perm.cons _ l2).trans (pop_perm left m hlt)
theorem xs_okN (h : Gd rest b M) (hb : b < 15000000) {p many : Nat} (hp : p < 1000) (hm : many ≤ p) : ∃ (xs : List Int) (M' : Mem), F_xxs [.cel 3, ze (p : Int), ze (many : Int)] M = some (.dat (rD xs), M') ∧ xs.length = many ∧ xs.Pairwise (· < ·) ∧ (∀ z ∈ xs, 0 ≤ z ∧ z < (p : Int)) ∧ Gd rest (b + many) M' := by
  have hlen := gd_len h
  have left0 : rangeD 0 (p : Int) = ((List.range p).map fun i : Nat => (i : Int)).map PyData.int := by
    rw [range_natR, List.map_map]; rfl
  generalize hL : ((List.range p).map fun i : Nat => (i : Int)) = left at left0
  have ll : left.length = p := by rw [← hL, List.length_map, List.length_range]
  have ln : left.Nodup := by
    rw [← hL, List.nodup_iff_pairwise_ne, List.pairwise_map]
    exact (List.nodup_iff_pairwise_ne.mp List.nodup_range).imp fun hab e => hab (by omega)
  have lm : ∀ z ∈ left, 0 ≤ z ∧ z < (p : Int) := fun z hz => by
    rw [← hL] at hz
    obtain ⟨i, hi, rfl⟩ := List.mem_map.mp hz
    have := List.mem_range.mp hi
    omega
  have h0 := gd_new h (cd (left.map PyData.int))
  have dl : (rangeD 0 (many : Int)).length = many := by rw [rangeD_len]; omega
  obtain ⟨out, left', M2, e2, l1, l2, h2⟩ := popsN (o0 := some (.cel 3)) (o1 := some (ze (p : Int))) (o2 := some (ze (many : Int))) (o4 := none) rfl (rangeD 0 (many : Int)) left b (M ++ [cd (left.map PyData.int)]) h0 (by rw [dl]; omega) (by omega) (by omega)
  have mem : ∀ z ∈ out, z ∈ left := fun z hz => l2.mem_iff.mp (List.mem_append_left _ hz)
  have nd : out.Nodup := (List.nodup_append.mp ((l2.nodup_iff).mpr ln)).1
  have sr := srtI_perm out
  refine ⟨srtI out, M2.take M.length, mkF_rt (M1 := M2) (d := rD (srtI out)) ?_, by rw [sr.length_eq, l1, dl], srt_lt' nd, fun z hz => lm z (mem z (sr.mem_iff.mp hz)), ?_⟩
  · refine sSeq_nx (M1 := M ++ [cd (left.map PyData.int)]) (ρ1 := [some (.cel 3), some (ze (p : Int)), some (ze (many : Int)), some (.cel (rest.length + 4)), none]) ?_ ?_
    · have : eLrN (eVar 1) [some (.cel 3), some (ze (p : Int)), some (ze (many : Int)), none, none] M = some (.cel M.length, M ++ [cd (left.map PyData.int)]) := by
        rw [lrN_i (j := (p : Int)) rfl (by omega) (by omega), left0]
      rw [← hlen]
      exact sAsg_eq this rfl
    · have ret : sRet (eCB (one fTuple) (aCons (eCB (one fSorted) (aCons (eLc (iR1 (aCons (eVar 2) aNil)) (gNm 4) bYes (ePop (eVar 3) (eCall F_xnext (aCons (eVar 0) (aCons (eCB (one fLen) (aCons (eVar 3) aNil)) aNil)))) [4]) aNil)) aNil)) [some (.cel 3), some (ze (p : Int)), some (ze (many : Int)), some (.cel (rest.length + 4)), none] (M ++ [cd (left.map PyData.int)]) = some (.rt (.dat (rD (srtI out))) M2) := by
        refine sRet_eq (eCB_eq (xs := [.dat (lD (srtI out))]) (aCons_eq (eCB_eq (xs := [.dat (lD out)]) (aCons_eq (eLc_eq (vs := [4]) (M1 := M ++ [cd (left.map PyData.int)]) (iR1_eq (j := (many : Int)) rfl (by omega) (by omega)) (by rw [dl]; omega) e2) rfl) ?_) rfl) rfl)
        show ((intsOf (out.map PyData.int)).bind fun ns => some (SV.dat (.list ((srtI ns).map PyData.int)))) = _
        rw [intsOf_map']; rfl
      show sFrz 3 _ _ _ = _
      unfold sFrz
      rw [ret]
      rfl
  · rw [hlen]
    have := gd_cut h2
    exact this.up (by rw [dl]; omega)
/-! rests -/
end

end Lk44

namespace Lk44
open PySem Sm L2
local macro_rules
  | `(tactic| walk_at "le") => `(tactic| ((try simp only [List.length_cons, List.length_nil, List.length_append, List.length_map]); omega))
local macro_rules
  | `(tactic| walk_at "smb") => `(tactic| first
    | with_reducible assumption
    | with_reducible rfl
    | assumption
    | rfl
    | (simp only [decide_eq_true_eq, decide_eq_false_iff_not, beq_iff_eq, Bool.not_eq_true', Bool.not_eq_false', beq_eq_false_iff_ne, Bool.and_eq_true, Bool.or_eq_true, Bool.not_eq_true, Bool.not_eq_false, ne_eq, Bool.and_eq_false_imp, Bool.or_eq_false_iff]; omega))
local macro_rules
  | `(tactic| walk_at "smf") => `(tactic| fail "no call")
local macro_rules
  | `(tactic| walk_at "sml") => `(tactic| first
    | with_reducible assumption
    | with_reducible exact l_add
    | with_reducible exact l_sub
    | with_reducible exact l_eq
    | with_reducible exact l_ne
    | with_reducible exact l_lt
    | with_reducible exact l_le
    | with_reducible exact l_gt
    | with_reducible exact l_ge
    | with_reducible exact l_eqSS
    | with_reducible exact l_neSS
    | with_reducible exact l_eqBS
    | with_reducible exact l_neBS
    | with_reducible exact l_eqB
    | with_reducible exact l_neB
    | with_reducible exact l_eqS
    | with_reducible exact l_neS
    | with_reducible exact l_neg
    | with_reducible exact isi_int _
    | with_reducible exact isi_bool _
    | with_reducible exact isi_tup _
    | with_reducible exact l_lenL
    | with_reducible exact l_lenT
    | with_reducible exact l_slL
    | with_reducible exact l_slT
    | ((with_reducible apply l_mod); (walk_at "smo"))
    | ((with_reducible apply l_mul); (walk_at "smo"))
    | ((with_reducible apply l_div); (walk_at "smo"); (walk_at "smo"))
    | ((with_reducible apply l_addT); rfl)
    | ((with_reducible apply l_addL); rfl)
    | ((with_reducible apply l_ixL); first | assumption | rfl)
    | ((with_reducible apply l_ixT); first | assumption | rfl)
    | ((with_reducible apply one_eq); (walk_at "sml"))
    | with_reducible assumption
    | rfl)
local macro_rules
  | `(tactic| walk_at "smo") => `(tactic| first | assumption | omega)
local macro_rules
  | `(tactic| walk_at "sm") => `(tactic| first
    | with_reducible assumption
    | with_reducible exact aNil_eq
    | with_reducible exact eC_eq
    | with_reducible exact sNext_eq
    | with_reducible exact eD0_eq
    | ((with_reducible apply eD1_eq); (walk_at "sm"))
    | ((with_reducible apply eC_e); rfl)
    | with_reducible exact oNone_eq
    | ((with_reducible apply eVar_eq); rfl)
    | ((with_reducible apply aCons_eq); (walk_at "sm"); (walk_at "sm"))
    | ((with_reducible apply eOp_eq); (walk_at "sm"); (walk_at "sm"); (walk_at "sml"))
    | ((with_reducible apply eUn_eq); (walk_at "sm"); (walk_at "sml"))
    | ((with_reducible apply eCB_eq); (walk_at "sm"); (walk_at "sml"))
    | ((with_reducible apply eCall_eq); (walk_at "sm"); (first | with_reducible assumption | walk_at "smf"))
    | ((with_reducible apply eTup_e); (walk_at "sm"); rfl; rfl)
    | ((with_reducible apply eLst_e); (walk_at "sm"); rfl; rfl)
    | ((with_reducible apply oSome_eq); (walk_at "sm"))
    | ((with_reducible apply eSl_eq); (walk_at "sm"); (walk_at "sm"); (walk_at "sm"); (walk_at "sml"))
    | ((with_reducible apply eNot_eq); (walk_at "sm"))
    | ((with_reducible apply bNot_eq); (walk_at "sm"))
    | ((with_reducible apply bVal_eq); (walk_at "sm"))
    | ((with_reducible apply bTru_b); (walk_at "sm"))
    | ((with_reducible apply eChain_e); (walk_at "sm"); (walk_at "sm"); (walk_at "sml"); (walk_at "sm"); (walk_at "sml"))
    | ((with_reducible apply eChain3_e); (walk_at "sm"); (walk_at "sm"); (walk_at "sml"); (walk_at "sm"); (walk_at "sml"); (walk_at "sm"); (walk_at "sml"))
    | ((with_reducible apply bOr_e); (walk_at "sm"); (first | ((apply ite_T); (walk_at "smb"); rfl) | ((apply ite_F); (walk_at "smb"); (walk_at "sm")) | ((apply or_gen); (walk_at "sm"))))
    | ((with_reducible apply bAnd_e); (walk_at "sm"); (first | ((apply ite_F); (walk_at "smb"); rfl) | ((apply ite_T); (walk_at "smb"); (walk_at "sm")) | ((apply and_gen); (walk_at "sm"))))
    | ((with_reducible apply eOr_e); (walk_at "sm"); (first | ((apply ite_T); (walk_at "smb"); rfl) | ((apply ite_F); (walk_at "smb"); (walk_at "sm")) | ((apply eor_gen); (walk_at "sm"))))
    | ((with_reducible apply eAnd_e); (walk_at "sm"); (first | ((apply ite_F); (walk_at "smb"); rfl) | ((apply ite_T); (walk_at "smb"); (walk_at "sm")) | ((apply eand_gen); (walk_at "sm"))))
    | ((with_reducible apply eIf_e); (walk_at "sm"); (first | ((apply ite_T); (walk_at "smb"); (walk_at "sm")) | ((apply ite_F); (walk_at "smb"); (walk_at "sm"))))
    | ((with_reducible apply sIf_e); (walk_at "sm"); (first | ((apply ite_T); (walk_at "smb"); (walk_at "sm")) | ((apply ite_F); (walk_at "smb"); (walk_at "sm"))))
    | ((with_reducible apply sSeq_e); (walk_at "sm"); (first | with_reducible exact seqK_rt | ((with_reducible apply seqK_nx); (walk_at "sm")) | ((with_reducible refine Eq.trans seqK_rt ?_); rfl)))
    | ((with_reducible apply sRet_eq); (walk_at "sm"))
    | ((with_reducible apply sAsg_eq); (walk_at "sm"); (walk_at "smg"))
    | with_reducible assumption
    | walk_at "smx")
local macro_rules
  | `(tactic| walk_at "smx") => `(tactic| fail "no step")
local macro_rules
  | `(tactic| walk_at "smg") => `(tactic| first
    | ((with_reducible apply gNm_e); ((dsimp only [List.set]) <;> rfl))
    | ((with_reducible apply gTp_e); rfl; ((dsimp only [setAll, List.set]) <;> rfl))
    | rfl)

/-! ### places, powers, tables, what is kept: the law's own -/
abbrev plcD (q : Nat × Nat) : PyData := .tuple [.int (q.1 : Int), .int (q.2 : Int)]
theorem plc_step (d i : Nat) : plc (i + 1) d = plc i d ++ plr d i := by
  unfold plc plr
  rw [List.range_succ, List.flatMap_append]; simp
theorem plc_small {k d : Nat} (hk : k ≤ 20) (hd : d ≤ 20) : (plc k d).length ≤ 400 := by
  have : ∀ k, (plc k d).length ≤ k * 20 := fun k => by
    induction k with
    | zero => simp [plc]
    | succ k ih =>
      rw [plc_step, List.length_append]
      have : (plr d k).length ≤ 20 := by unfold plr; rw [List.length_map, List.length_range]; omega
      rw [Nat.succ_mul]; omega
  have := this k
  have : k * 20 ≤ 20 * 20 := Nat.mul_le_mul_right _ hk
  omega
section
variable {p l x : Int} {k d : Nat} {M : Mem}
theorem sExt_eq {o a : SE} {ρ : Rho} {M M1 M2 : Mem} {i j : Nat} {xs0 xs ys : List SV} {ds : List PyData} (h1 : o ρ M = some (.cel i, M1)) (h2 : a ρ M1 = some (.cel j, M2)) (h3 : M1[i]? = some (some xs0)) (h4 : M2[i]? = some (some xs)) (h5 : M2[j]? = some (some ys)) (h6 : dats ys = some ds) (h7 : xs.length + ys.length ≤ 100000) : sExt o a ρ M = some (.nx ρ (M2.set i (some (xs ++ ys)))) := by
  simp only [sExt, h1, h2, Option.bind_some, cellAt, h3, h4, h5, h6, h7, if_true]
theorem spots_ok (hk : k ≤ 20) (hd : d ≤ 20) : F_xspots [.dat (shD p k d l)] M = some (.dat (.list ((plc k d).map plcD)), M) := by
  obtain ⟨ρ', M', e, o2, N, rfl, rfl⟩ := loop_inv (g := gNm 2) (s := sExt (eVar 1) (eLcN (iR2 (aCons (eVar 2) (aCons (eOp fIx (eVar 0) (eC (.int 2))) aNil))) (gNm 3) bYes (eTup (aCons (eVar 2) (aCons (eVar 3) aNil))) [3])) (fun i ρ M1 => ∃ o2 N, ρ = [some (.dat (shD p k d l)), some (.cel M.length), o2, none] ∧ M1 = M ++ [cd ((plc i d).map plcD)] ++ N) (rangeD 0 (k : Int)) 0 [some (.dat (shD p k d l)), some (.cel M.length), none, none] (M ++ [some []]) ⟨none, [], rfl, by rw [List.append_nil]; rfl⟩ (by
    rintro i e ρ M1 he ⟨o2, N, rfl, rfl⟩
    rw [Nat.zero_add] at *
    rw [range_natR, List.getElem?_map] at he
    obtain ⟨i', hi', rfl⟩ := Option.map_eq_some_iff.mp he
    obtain ⟨q1, q2⟩ := List.getElem?_eq_some_iff.mp hi'
    rw [List.getElem_range] at q2
    rw [List.length_range] at q1
    subst q2
    have small := plc_small (k := i) (d := d) (by omega) hd
    generalize hMM : M ++ [cd ((plc i d).map plcD)] ++ N = MM
    have g : MM[M.length]? = some (cd ((plc i d).map plcD)) := by
      rw [← hMM, List.append_assoc, List.getElem?_append_right (Nat.le_refl _), Nat.sub_self]; rfl
    have glt : M.length < MM.length := (List.getElem?_eq_some_iff.mp g).1
    have lc := lc_all (g := gNm 3) (el := eTup (aCons (eVar 2) (aCons (eVar 3) aNil))) (ρ := [some (.dat (shD p k d l)), some (.cel M.length), some (ze (i : Int)), none]) (M := MM) (toD := fun j : Nat => PyData.int ((i + j : Nat) : Int)) (f := fun j : Nat => plcD (i, i + j)) (List.range (d - i)) (fun j _ => ⟨_, rfl, eTup_eq (xs := [ze (i : Int), ze ((i + j : Nat) : Int)]) (aCons_eq (M1 := MM) rfl (aCons_eq (M1 := MM) rfl rfl)) rfl (show 2 ≤ 100000 by omega)⟩)
    have e2 : (List.range (d - i)).map (fun j : Nat => plcD (i, i + j)) = (plr d i).map plcD := by
      unfold plr; rw [List.map_map]; rfl
    rw [e2] at lc
    have el : eLcN (iR2 (aCons (eVar 2) (aCons (eOp fIx (eVar 0) (eC (.int 2))) aNil))) (gNm 3) bYes (eTup (aCons (eVar 2) (aCons (eVar 3) aNil))) [3] [some (.dat (shD p k d l)), some (.cel M.length), some (ze (i : Int)), none] MM = some (.cel MM.length, MM ++ [cd ((plr d i).map plcD)]) := by
      unfold eLcN
      rw [iR2_eq (M1 := MM) (i := (i : Int)) (j := (d : Int)) rfl (by omega) (by omega) (by omega) (by omega), range_from]
      simp only [Option.bind_some]
      rw [if_pos (by rw [List.length_map, List.length_range]; omega), show wipeR [some (.dat (shD p k d l)), some (.cel M.length), some (ze (i : Int)), none] [3] = [some (.dat (shD p k d l)), some (.cel M.length), some (ze (i : Int)), none] from rfl, lc]
      simp only [Option.bind_some]
    refine ⟨_, _, _, _, rfl, ?_, some (ze (i : Int)), N ++ [cd ((plr d i).map plcD)], rfl, rfl⟩
    have hc : (((plc i d).map plcD).map SV.dat).length + (((plr d i).map plcD).map SV.dat).length ≤ 100000 := by
      simp only [List.length_map]
      have : (plr d i).length ≤ 20 := by unfold plr; rw [List.length_map, List.length_range]; omega
      omega
    have st := sExt_eq (o := eVar 1) (ρ := [some (.dat (shD p k d l)), some (.cel M.length), some (ze (i : Int)), none]) (M := MM) (M1 := MM) rfl el g (by rw [List.getElem?_append_left glt]; exact g) (mem_get _ _) (dats_map _) hc
    have em : (MM ++ [cd ((plr d i).map plcD)]).set M.length (some (((plc i d).map plcD).map SV.dat ++ ((plr d i).map plcD).map SV.dat)) = M ++ [cd ((plc (i + 1) d).map plcD)] ++ (N ++ [cd ((plr d i).map plcD)]) := by
      rw [← hMM, plc_step, List.map_append, List.append_assoc, List.append_assoc, List.set_append_right _ _ (Nat.le_refl _), Nat.sub_self, List.append_assoc, ← List.map_append]
      rfl
    rw [em] at st
    exact st)
  have dl : (rangeD 0 (k : Int)).length = k := by rw [rangeD_len]; omega
  rw [dl, Nat.zero_add] at e
  have f := sFrz_eq (i := 1) (j := M.length) (s := sFor (iR1 (aCons (eOp fIx (eVar 0) (eC (.int 1))) aNil)) (gNm 2) _) (ρ := [some (.dat (shD p k d l)), some (.cel M.length), none, none]) (M := M ++ [some []]) (M1 := M ++ [cd ((plc k d).map plcD)] ++ N) (sFor_eq (M1 := M ++ [some []]) (iR1_eq (j := (k : Int)) rfl (by omega) (by omega)) e) rfl (by
    rw [List.append_assoc, List.getElem?_append_right (Nat.le_refl _), Nat.sub_self]; rfl) (dats_map ((plc k d).map plcD))
  have res := mkF_rt (n := 4) (s := B_xspots) (args := [.dat (shD p k d l)]) (M := M) (d := .list ((plc k d).map plcD)) (sSeq_nx (M1 := M ++ [some []]) (ρ1 := [some (.dat (shD p k d l)), some (.cel M.length), none, none]) rfl (sSeq_nx f rfl))
  rw [List.append_assoc, List.set_append_right _ _ (Nat.le_refl _), List.take_left' rfl] at res
  exact res
theorem pow_whl (hp : 0 < p) (hx : -(2 ^ 64) < x ∧ x < 2 ^ 64) {n : Nat} (hn : n ≤ 900) : ∀ (fuel j : Nat), 1 ≤ j → j ≤ n → n - j < fuel →
    whl (bVal (eOp (lift2 dLt) (eCB (one fLen) (aCons (eVar 3) aNil)) (eVar 1))) (sApp (eVar 3) (eOp (lift2 dMod) (eOp (lift2 dMul) (eOp fIx (eVar 3) (eUn (lift1 dNeg) (eC (.int 1)))) (eVar 2)) (eVar 0))) fuel [some (ze p), some (ze (n : Int)), some (ze x), some (.cel M.length)] (M ++ [cd ((pwl p x j).map PyData.int)]) = some (.nx [some (ze p), some (ze (n : Int)), some (ze x), some (.cel M.length)] (M ++ [cd ((pwl p x n).map PyData.int)]))
  | 0, j, _, _, h => absurd h (Nat.not_lt_zero _)
  | fuel + 1, j, h1, h2, h3 => by
    have len : fLen (M ++ [cd ((pwl p x j).map PyData.int)]) (.cel M.length) = some (ze (j : Int)) := by
      simp only [fLen, mem_get]
      rw [List.length_map, List.length_map, pwl_len]
    have tst : bVal (eOp (lift2 dLt) (eCB (one fLen) (aCons (eVar 3) aNil)) (eVar 1)) [some (ze p), some (ze (n : Int)), some (ze x), some (.cel M.length)] (M ++ [cd ((pwl p x j).map PyData.int)]) = some (decide ((j : Int) < (n : Int)), M ++ [cd ((pwl p x j).map PyData.int)]) :=
      bVal_eq (eOp_eq (M1 := M ++ [cd ((pwl p x j).map PyData.int)]) (M2 := M ++ [cd ((pwl p x j).map PyData.int)]) (eCB_eq (M1 := M ++ [cd ((pwl p x j).map PyData.int)]) (xs := [.cel M.length]) rfl len) rfl l_lt)
    by_cases e : j = n
    · subst e
      rw [decide_eq_false (show ¬ (j : Int) < (j : Int) by omega)] at tst
      exact whl_end tst
    · rw [decide_eq_true (show (j : Int) < (n : Int) by omega)] at tst
      have last : fIx (M ++ [cd ((pwl p x j).map PyData.int)]) (.cel M.length) (ze (-1)) = some (ze (pw p x (j - 1))) := by
        simp only [fIx, mem_get]
        show atI (((pwl p x j).map PyData.int).map SV.dat) (-1) = _
        unfold atI
        have : ixN (((pwl p x j).map PyData.int).map SV.dat).length (-1) = some (j - 1) := by
          rw [List.length_map, List.length_map, pwl_len]
          unfold ixN
          rw [if_neg (by omega), if_pos (by omega)]
          congr 1; omega
        rw [this]
        simp only [Option.bind_some]
        unfold pwl
        rw [List.getElem?_map, List.getElem?_map, List.getElem?_map, List.getElem?_range (by omega)]; rfl
      have st := app_at (k := 3) (ρ := [some (ze p), some (ze (n : Int)), some (ze x), some (.cel M.length)]) (M := M) (el := eOp (lift2 dMod) (eOp (lift2 dMul) (eOp fIx (eVar 3) (eUn (lift1 dNeg) (eC (.int 1)))) (eVar 2)) (eVar 0)) (d := .int (pw p x (j - 1) * x % p)) (ds := (pwl p x j).map PyData.int) rfl (eOp_eq (M1 := M ++ [cd ((pwl p x j).map PyData.int)]) (M2 := M ++ [cd ((pwl p x j).map PyData.int)]) (x := ze (pw p x (j - 1) * x)) (y := ze p) (eOp_eq (M1 := M ++ [cd ((pwl p x j).map PyData.int)]) (M2 := M ++ [cd ((pwl p x j).map PyData.int)]) (x := ze (pw p x (j - 1))) (y := ze x) (eOp_eq (M1 := M ++ [cd ((pwl p x j).map PyData.int)]) (M2 := M ++ [cd ((pwl p x j).map PyData.int)]) (x := .cel M.length) (y := ze (-1)) rfl rfl last) rfl (l_mul (.inr hx))) rfl (l_mod hp)) (by rw [List.length_map, pwl_len]; omega)
      have nx : cd ((pwl p x j).map PyData.int ++ [PyData.int (pw p x (j - 1) * x % p)]) = cd ((pwl p x (j + 1)).map PyData.int) := by
        rw [pwl_succ, List.map_append]
        congr 3
        obtain ⟨i, rfl⟩ : ∃ i, j = i + 1 := ⟨j - 1, by omega⟩
        rfl
      rw [nx] at st
      exact whl_nx tst st (pow_whl hp hx hn fuel (j + 1) (by omega) (by omega) (by omega))
theorem powers_okN (hp : 0 < p) (hx : -(2 ^ 64) < x ∧ x < 2 ^ 64) {n : Nat} (h1 : 1 ≤ n) (hn : n ≤ 900) : F_xpowers [ze p, ze (n : Int), ze x] M = some (.dat (.list ((List.range n).map fun r => PyData.int (pw p x r))), M) := by
  have w := pow_whl (M := M) hp hx hn 1000 1 (Nat.le_refl 1) h1 (by omega)
  have f := frz_at (k := 3) (ρ := [some (ze p), some (ze (n : Int)), some (ze x), some (.cel M.length)]) (M := M) (M0 := M ++ [cd ((pwl p x 1).map PyData.int)]) w rfl
  have res := mkF_rt (n := 4) (s := B_xpowers) (args := [ze p, ze (n : Int), ze x]) (M := M) (d := .list ((pwl p x n).map PyData.int)) (sSeq_nx (M1 := M ++ [cd ((pwl p x 1).map PyData.int)]) (ρ1 := [some (ze p), some (ze (n : Int)), some (ze x), some (.cel M.length)]) rfl (sSeq_nx f rfl))
  rw [List.take_left' rfl, pwl_ints] at res
  exact res
def fillT : List (Nat × Nat) → List Int → (Nat → Nat → Int) → Nat → Nat → Int
  | q :: ps, a :: v, T => fillT ps v (updT (updT T q.1 q.2 a) q.2 q.1 a)
  | _, _, T => T
theorem fill_eq : ∀ {ps : List (Nat × Nat)} {v : List Int} {T : Nat → Nat → Int} (r c : Nat), ps.Nodup → (∀ q ∈ ps, q.1 ≤ q.2) → v.length = ps.length → fillT ps v T r c = if (min r c, max r c) ∈ ps then lk ps v (min r c, max r c) else T r c
  | [], v, T, r, c, _, _, hl => by
    have : v = [] := List.eq_nil_of_length_eq_zero hl
    subst this
    rw [if_neg List.not_mem_nil]; rfl
  | _ :: _, [], _, _, _, _, _, hl => by simp at hl
  | q :: ps, a :: v, T, r, c, nd, hn, hl => by
    obtain ⟨n1, n2⟩ := List.nodup_cons.mp nd
    rw [fillT, fill_eq r c n2 (fun t ht => hn t (List.mem_cons_of_mem _ ht)) (by simpa using hl), lk]
    have nq := hn q List.mem_cons_self
    by_cases m : (min r c, max r c) ∈ ps
    · rw [if_pos m, if_pos (List.mem_cons_of_mem _ m), if_neg fun e => n1 (by rw [e]; exact m)]
    · rw [if_neg m]
      obtain ⟨u, w⟩ := q
      dsimp only at nq
      by_cases e : (u, w) = (min r c, max r c)
      · rw [if_pos (by rw [e]; exact List.mem_cons_self), if_pos e]
        injection e with e1 e2
        unfold updT
        dsimp only
        by_cases z : r = w ∧ c = u
        · rw [if_pos z]
        · rw [if_neg z, if_pos (by omega)]
      · rw [if_neg fun h => by
          rcases List.mem_cons.mp h with z | z
          · exact e z.symm
          · exact m z]
        unfold updT
        dsimp only
        have ne : ¬ (u = min r c ∧ w = max r c) := fun z => e (by rw [z.1, z.2])
        rw [if_neg (by omega), if_neg (by omega)]
theorem tab_loop {nums : PyData} {v : List Int} (hnum : ∀ (MM : Mem) (i : Nat), i < v.length → fIx MM (.dat nums) (ze (i : Int)) = some (ze (v.getD i 0))) {sh : SV} : ∀ (ps : List (Nat × Nat)) (i : Nat) (T : Nat → Nat → Int) (o3 o4 o5 : Option SV), (∀ q ∈ ps, q.1 < d ∧ q.2 < d) → i + ps.length = v.length →
    ∃ o3' o4' o5', loop (gPt (.tp [(.nm 3), (.tp [(.nm 4), (.nm 5)])])) (sSeq (sAsg (eOp fIx (eVar 1) (eVar 3)) (gStore (eOp fIx (eVar 2) (eVar 4)) (eVar 5))) (sAsg (eOp fIx (eVar 1) (eVar 3)) (gStore (eOp fIx (eVar 2) (eVar 5)) (eVar 4)))) ((ps.zipIdx i).map fun t => PyData.tuple [.int (t.2 : Int), plcD t.1]) [some sh, some (.dat nums), some (.cel (M.length + 2 * d)), o3, o4, o5] (tm M d T) = some (.nx [some sh, some (.dat nums), some (.cel (M.length + 2 * d)), o3', o4', o5'] (tm M d (fillT ps (v.drop i) T)))
  | [], i, T, o3, o4, o5, _, _ => ⟨o3, o4, o5, by
      have e : fillT [] (v.drop i) T = T := by unfold fillT; rfl
      rw [e]; rfl⟩
  | q :: ps, i, T, o3, o4, o5, hq, hl => by
    rw [List.length_cons] at hl
    obtain ⟨q1, q2⟩ := hq q List.mem_cons_self
    obtain ⟨o3', o4', o5', e⟩ := tab_loop hnum (sh := sh) ps (i + 1) (updT (updT T q.1 q.2 (v.getD i 0)) q.2 q.1 (v.getD i 0)) (some (ze (i : Int))) (some (ze (q.1 : Int))) (some (ze (q.2 : Int))) (fun t ht => hq t (List.mem_cons_of_mem _ ht)) (by omega)
    refine ⟨o3', o4', o5', ?_⟩
    have dv : v.drop i = v.getD i 0 :: v.drop (i + 1) := by
      rw [List.getD_eq_getElem?_getD, List.getElem?_eq_getElem (by omega), Option.getD_some]
      exact List.drop_eq_getElem_cons (by omega)
    rw [dv, fillT, List.zipIdx_cons, List.map_cons]
    refine loop_nx (M1 := tm M d T) (ρ1 := [some sh, some (.dat nums), some (.cel (M.length + 2 * d)), some (ze (i : Int)), some (ze (q.1 : Int)), some (ze (q.2 : Int))]) rfl (sSeq_nx (M1 := tm M d (updT T q.1 q.2 (v.getD i 0))) (ρ1 := [some sh, some (.dat nums), some (.cel (M.length + 2 * d)), some (ze (i : Int)), some (ze (q.1 : Int)), some (ze (q.2 : Int))]) ?_ ?_) e
    · exact sAsg_eq (eOp_eq (M1 := tm M d T) (M2 := tm M d T) (x := .dat nums) (y := ze (i : Int)) rfl rfl (hnum _ i (by omega))) (tm_store (r := q.1) (s := q.2) rfl rfl rfl q1 q2)
    · exact sAsg_eq (eOp_eq (M1 := tm M d (updT T q.1 q.2 (v.getD i 0))) (M2 := tm M d (updT T q.1 q.2 (v.getD i 0))) (x := .dat nums) (y := ze (i : Int)) rfl rfl (hnum _ i (by omega))) (tm_store (r := q.2) (s := q.1) rfl rfl rfl q2 q1)
theorem enum_zip {α : Type} (f : α → PyData) (l : List α) : enumD (l.map f) = (l.zipIdx).map fun t => PyData.tuple [.int (t.2 : Int), f t.1] := by
  apply List.ext_getElem
  · simp [enumD]
  · intro i h1 h2
    simp [enumD] at h1 ⊢
    rw [List.getElem?_eq_getElem h1]; rfl
theorem tabled_ok (hk : k ≤ d) (hd : d ≤ 20) {nums : PyData} {v : List Int} (hs : seqD nums = some (v.map PyData.int)) (hv : v.length = (plc k d).length) : F_xtabled [.dat (shD p k d l), .dat nums] M = some (.dat (tlD d (tabN (plc k d) v)), M) := by
  have small := plc_small (k := k) (d := d) (by omega) hd
  have nw := tm_new (it := iR1 (aCons (eOp fIx (eVar 0) (eC (.int 2))) aNil)) (g := gNm 4) (e := eOp fIx (eVar 0) (eC (.int 2))) (vs := [4]) (ρ := [some (.dat (shD p k d l)), some (.dat nums), none, none, none, none]) (M := M) (d := d) (ds := rangeD 0 (d : Int)) (by omega) (iR1_eq (j := (d : Int)) rfl (by omega) (by omega)) (by rw [rangeD_len]; omega) (fun x _ => ⟨_, fun MM => ⟨rfl, rfl⟩⟩)
  obtain ⟨o3, o4, o5, lp⟩ := tab_loop (M := M) (d := d) (v := v) (nums := nums) (sh := .dat (shD p k d l)) (fun MM i hi => row_at (row := v) (c := i) hi hs) (plc k d) 0 (fun _ _ => 0) none none none (fun q hq => by have := mem_plc.mp hq; omega) (by omega)
  have fe : fillT (plc k d) (v.drop 0) (fun _ _ => 0) = tabN (plc k d) v := by
    funext r c
    rw [List.drop_zero, fill_eq r c (plc_nodup d k) (fun q hq => (mem_plc.mp hq).2.1) hv]
    unfold tabN
    split
    · rfl
    · rename_i m; rw [lk_no m]
  rw [fe] at lp
  have it : iEnM (aCons (eCall F_xspots (aCons (eVar 0) aNil)) aNil) [some (.dat (shD p k d l)), some (.dat nums), some (.cel (M.length + 2 * d)), none, none, none] (tm M d fun _ _ => 0) = some (((plc k d).zipIdx 0).map fun t => PyData.tuple [.int (t.2 : Int), plcD t.1], tm M d fun _ _ => 0) := by
    have c : aCons (eCall F_xspots (aCons (eVar 0) aNil)) aNil [some (.dat (shD p k d l)), some (.dat nums), some (.cel (M.length + 2 * d)), none, none, none] (tm M d fun _ _ => 0) = some ([.dat (.list ((plc k d).map plcD))], tm M d fun _ _ => 0) :=
      aCons_eq (M1 := tm M d fun _ _ => 0) (eCall_eq (M1 := tm M d fun _ _ => 0) (xs := [.dat (shD p k d l)]) rfl (spots_ok (by omega) hd)) rfl
    unfold iEnM
    rw [c]
    simp only [Option.bind_some, seqD]
    rw [enum_zip]
  obtain ⟨M2, t2, fz⟩ := tm_frz (T := tabN (plc k d) v) (i := 2) (s := sFor (iEnM (aCons (eCall F_xspots (aCons (eVar 0) aNil)) aNil)) (gPt (.tp [(.nm 3), (.tp [(.nm 4), (.nm 5)])])) _) (ρ := [some (.dat (shD p k d l)), some (.dat nums), some (.cel (M.length + 2 * d)), none, none, none]) (M0 := tm M d fun _ _ => 0) (sFor_eq it lp) rfl
  have res := mkF_rt (n := 6) (s := B_xtabled) (args := [.dat (shD p k d l), .dat nums]) (M := M) (M1 := M2) (d := tlD d (tabN (plc k d) v)) (sSeq_nx (M1 := tm M d fun _ _ => 0) (ρ1 := [some (.dat (shD p k d l)), some (.dat nums), some (.cel (M.length + 2 * d)), none, none, none]) (sAsg_eq nw rfl) (sSeq_nx fz rfl))
  rw [t2] at res
  exact res
theorem keeps_okN (hp : 1 < p ∧ p ≤ 1000) (hx : -(2 ^ 60) < x ∧ x < 2 ^ 60) (h1 : 1 ≤ d) (hk : k ≤ d) (hd : d ≤ 20) {nums : PyData} {v : List Int} (hs : seqD nums = some (v.map PyData.int)) (hv : v.length = (plc k d).length) : F_xkeeps [.dat (shD p k d l), .dat nums, ze x] M = some (.dat (rD (keptL p d (tabN (plc k d) v) x)), M) := by
  have et := tabled_ok (p := p) (l := l) (M := M) hk hd hs hv
  have ep := powers_okN (p := p) (x := x) (M := M) (n := d) (by omega) (by omega) h1 (by omega)
  generalize hT : tabN (plc k d) v = T at et
  have lc := lc_range (el := eOp (lift2 dMod) (eCB (one (lift1 dSumA)) (aCons (eLc (iR1 (aCons (eVar 4) aNil)) (gNm 7) bYes (eOp (lift2 dMul) (eOp fIx (eVar 5) (eVar 7)) (eOp fIx (eOp fIx (eVar 3) (eVar 7)) (eVar 6))) [7]) aNil)) (eOp fIx (eVar 0) (eC (.int 0)))) (it := iR1 (aCons (eVar 4) aNil)) (ρ := [some (.dat (shD p k d l)), some (.dat nums), some (ze x), some (.dat (tlD d T)), some (ze (d : Int)), some (.dat (.list ((List.range d).map fun r => PyData.int (pw p x r)))), none, none]) (ρ0 := [some (.dat (shD p k d l)), some (.dat nums), some (ze x), some (.dat (tlD d T)), some (ze (d : Int)), some (.dat (.list ((List.range d).map fun r => PyData.int (pw p x r)))), none, none]) (M := M) (n := d) (j := 6) (vs := [6]) (f := fun c => .int (hor p x (colL d T c))) (iR1_eq (M1 := M) (j := (d : Int)) rfl (by omega) (by omega)) rfl (by omega) (by
    intro c hc
    have li := lc_range (el := eOp (lift2 dMul) (eOp fIx (eVar 5) (eVar 7)) (eOp fIx (eOp fIx (eVar 3) (eVar 7)) (eVar 6))) (it := iR1 (aCons (eVar 4) aNil)) (ρ := [some (.dat (shD p k d l)), some (.dat nums), some (ze x), some (.dat (tlD d T)), some (ze (d : Int)), some (.dat (.list ((List.range d).map fun r => PyData.int (pw p x r)))), some (ze (c : Int)), none]) (ρ0 := [some (.dat (shD p k d l)), some (.dat nums), some (ze x), some (.dat (tlD d T)), some (ze (d : Int)), some (.dat (.list ((List.range d).map fun r => PyData.int (pw p x r)))), some (ze (c : Int)), none]) (M := M) (n := d) (j := 7) (vs := [7]) (f := fun r => .int (pw p x r * T r c)) (iR1_eq (M1 := M) (j := (d : Int)) rfl (by omega) (by omega)) rfl (by omega) (by
      intro r hr
      have b := pw_in (p := p) (x := x) hp.1 r
      exact eOp_eq (M1 := M) (M2 := M) (eOp_eq (M1 := M) (M2 := M) (x := .dat (.list ((List.range d).map fun r => PyData.int (pw p x r)))) (y := ze (r : Int)) rfl rfl (lst_range _ hr)) (eOp_eq (M1 := M) (M2 := M) (y := ze (c : Int)) (eOp_eq (M1 := M) (M2 := M) (x := .dat (tlD d T)) (y := ze (r : Int)) rfl rfl (lst_range _ hr)) rfl (lst_range _ hc)) (l_mul (.inl (by omega))))
    have eq : ((List.range d).map fun r => PyData.int (pw p x r * T r c)) = ((List.range d).map fun r => pw p x r * T r c).map PyData.int := by rw [List.map_map]; rfl
    rw [eq] at li
    have hs := l_sumLd (M := M) ((List.range d).map fun r => pw p x r * T r c)
    rw [sum_range] at hs
    show _ = some (ze (hor p x (colL d T c)), _)
    rw [← keep_at]
    exact eOp_eq (M1 := M) (M2 := M) (eCB_eq (M1 := M) (aCons_eq (M1 := M) li rfl) hs) (y := ze p) rfl (l_mod (by omega)))
  refine mkF_rtL (M1 := M) rfl ?_
  refine sSeq_nx (M1 := M) (ρ1 := [some (.dat (shD p k d l)), some (.dat nums), some (ze x), some (.dat (tlD d T)), some (ze (d : Int)), none, none, none]) (sAsg_eq (M1 := M) (eTup_eq (xs := [.dat (tlD d T), ze (d : Int)]) (aCons_eq (M1 := M) (eCall_eq (M1 := M) (xs := [.dat (shD p k d l), .dat nums]) rfl et) rfl) rfl (show 2 ≤ 100000 by omega)) rfl) ?_
  refine sSeq_nx (M1 := M) (ρ1 := [some (.dat (shD p k d l)), some (.dat nums), some (ze x), some (.dat (tlD d T)), some (ze (d : Int)), some (.dat (.list ((List.range d).map fun r => PyData.int (pw p x r)))), none, none]) (sAsg_eq (M1 := M) (eCall_eq (M1 := M) (xs := [ze p, ze (d : Int), ze x]) rfl ep) rfl) ?_
  refine sRet_eq (eCB_eq (M1 := M) (aCons_eq (M1 := M) lc rfl) ?_)
  show some (SV.dat (.tuple ((List.range d).map fun c => .int (hor p x (colL d T c))))) = _
  unfold rD
  rw [kept_ints]
end

end Lk44

namespace Lk44
open PySem Sm L2
local macro_rules
  | `(tactic| walk_at "le") => `(tactic| ((try simp only [List.length_cons, List.length_nil, List.length_append, List.length_map]); omega))
local macro_rules
  | `(tactic| walk_at "smb") => `(tactic| first
    | with_reducible assumption
    | with_reducible rfl
    | assumption
    | rfl
    | (simp only [decide_eq_true_eq, decide_eq_false_iff_not, beq_iff_eq, Bool.not_eq_true', Bool.not_eq_false', beq_eq_false_iff_ne, Bool.and_eq_true, Bool.or_eq_true, Bool.not_eq_true, Bool.not_eq_false, ne_eq, Bool.and_eq_false_imp, Bool.or_eq_false_iff]; omega))
local macro_rules
  | `(tactic| walk_at "smf") => `(tactic| fail "no call")
local macro_rules
  | `(tactic| walk_at "sml") => `(tactic| first
    | with_reducible assumption
    | with_reducible exact l_add
    | with_reducible exact l_sub
    | with_reducible exact l_eq
    | with_reducible exact l_ne
    | with_reducible exact l_lt
    | with_reducible exact l_le
    | with_reducible exact l_gt
    | with_reducible exact l_ge
    | with_reducible exact l_eqSS
    | with_reducible exact l_neSS
    | with_reducible exact l_eqBS
    | with_reducible exact l_neBS
    | with_reducible exact l_eqB
    | with_reducible exact l_neB
    | with_reducible exact l_eqS
    | with_reducible exact l_neS
    | with_reducible exact l_neg
    | with_reducible exact isi_int _
    | with_reducible exact isi_bool _
    | with_reducible exact isi_tup _
    | with_reducible exact l_lenL
    | with_reducible exact l_lenT
    | with_reducible exact l_slL
    | with_reducible exact l_slT
    | ((with_reducible apply l_mod); (walk_at "smo"))
    | ((with_reducible apply l_mul); (walk_at "smo"))
    | ((with_reducible apply l_div); (walk_at "smo"); (walk_at "smo"))
    | ((with_reducible apply l_addT); rfl)
    | ((with_reducible apply l_addL); rfl)
    | ((with_reducible apply l_ixL); first | assumption | rfl)
    | ((with_reducible apply l_ixT); first | assumption | rfl)
    | ((with_reducible apply one_eq); (walk_at "sml"))
    | with_reducible assumption
    | rfl)
local macro_rules
  | `(tactic| walk_at "smo") => `(tactic| first | assumption | omega)
local macro_rules
  | `(tactic| walk_at "sm") => `(tactic| first
    | with_reducible assumption
    | with_reducible exact aNil_eq
    | with_reducible exact eC_eq
    | with_reducible exact sNext_eq
    | with_reducible exact eD0_eq
    | ((with_reducible apply eD1_eq); (walk_at "sm"))
    | ((with_reducible apply eC_e); rfl)
    | with_reducible exact oNone_eq
    | ((with_reducible apply eVar_eq); rfl)
    | ((with_reducible apply aCons_eq); (walk_at "sm"); (walk_at "sm"))
    | ((with_reducible apply eOp_eq); (walk_at "sm"); (walk_at "sm"); (walk_at "sml"))
    | ((with_reducible apply eUn_eq); (walk_at "sm"); (walk_at "sml"))
    | ((with_reducible apply eCB_eq); (walk_at "sm"); (walk_at "sml"))
    | ((with_reducible apply eCall_eq); (walk_at "sm"); (first | with_reducible assumption | walk_at "smf"))
    | ((with_reducible apply eTup_e); (walk_at "sm"); rfl; rfl)
    | ((with_reducible apply eLst_e); (walk_at "sm"); rfl; rfl)
    | ((with_reducible apply oSome_eq); (walk_at "sm"))
    | ((with_reducible apply eSl_eq); (walk_at "sm"); (walk_at "sm"); (walk_at "sm"); (walk_at "sml"))
    | ((with_reducible apply eNot_eq); (walk_at "sm"))
    | ((with_reducible apply bNot_eq); (walk_at "sm"))
    | ((with_reducible apply bVal_eq); (walk_at "sm"))
    | ((with_reducible apply bTru_b); (walk_at "sm"))
    | ((with_reducible apply eChain_e); (walk_at "sm"); (walk_at "sm"); (walk_at "sml"); (walk_at "sm"); (walk_at "sml"))
    | ((with_reducible apply eChain3_e); (walk_at "sm"); (walk_at "sm"); (walk_at "sml"); (walk_at "sm"); (walk_at "sml"); (walk_at "sm"); (walk_at "sml"))
    | ((with_reducible apply bOr_e); (walk_at "sm"); (first | ((apply ite_T); (walk_at "smb"); rfl) | ((apply ite_F); (walk_at "smb"); (walk_at "sm")) | ((apply or_gen); (walk_at "sm"))))
    | ((with_reducible apply bAnd_e); (walk_at "sm"); (first | ((apply ite_F); (walk_at "smb"); rfl) | ((apply ite_T); (walk_at "smb"); (walk_at "sm")) | ((apply and_gen); (walk_at "sm"))))
    | ((with_reducible apply eOr_e); (walk_at "sm"); (first | ((apply ite_T); (walk_at "smb"); rfl) | ((apply ite_F); (walk_at "smb"); (walk_at "sm")) | ((apply eor_gen); (walk_at "sm"))))
    | ((with_reducible apply eAnd_e); (walk_at "sm"); (first | ((apply ite_F); (walk_at "smb"); rfl) | ((apply ite_T); (walk_at "smb"); (walk_at "sm")) | ((apply eand_gen); (walk_at "sm"))))
    | ((with_reducible apply eIf_e); (walk_at "sm"); (first | ((apply ite_T); (walk_at "smb"); (walk_at "sm")) | ((apply ite_F); (walk_at "smb"); (walk_at "sm"))))
    | ((with_reducible apply sIf_e); (walk_at "sm"); (first | ((apply ite_T); (walk_at "smb"); (walk_at "sm")) | ((apply ite_F); (walk_at "smb"); (walk_at "sm"))))
    | ((with_reducible apply sSeq_e); (walk_at "sm"); (first | with_reducible exact seqK_rt | ((with_reducible apply seqK_nx); (walk_at "sm")) | ((with_reducible refine Eq.trans seqK_rt ?_); rfl)))
    | ((with_reducible apply sRet_eq); (walk_at "sm"))
    | ((with_reducible apply sAsg_eq); (walk_at "sm"); (walk_at "smg"))
    | with_reducible assumption
    | walk_at "smx")
local macro_rules
  | `(tactic| walk_at "smx") => `(tactic| fail "no step")
local macro_rules
  | `(tactic| walk_at "smg") => `(tactic| first
    | ((with_reducible apply gNm_e); ((dsimp only [List.set]) <;> rfl))
    | ((with_reducible apply gTp_e); rfl; ((dsimp only [setAll, List.set]) <;> rfl))
    | rfl)

abbrev pD (q : Int × Int) : PyData := .tuple [.int q.1, .int q.2]

/-! ### the rest by which a rest comes to 1 -/
theorem con_turn {p a h l : Int} {hf lf : Int} {o : Option SV} {M : Mem} (hl : 0 < l) (hl2 : l < 2 ^ 64) (ht : -(2 ^ 64) < h / l ∧ h / l < 2 ^ 64) :
    (sSeq (sAsg (eOp (lift2 dDiv) (eVar 2) (eVar 3)) (gNm 6))
    (sSeq (sPar 2 3 (aCons (eVar 3) (aCons (eOp (lift2 dSub) (eVar 2) (eOp (lift2 dMul) (eVar 6) (eVar 3))) aNil)))
    (sPar 4 5 (aCons (eVar 5) (aCons (eOp (lift2 dSub) (eVar 4) (eOp (lift2 dMul) (eVar 6) (eVar 5))) aNil)))))
    [some (ze p), some (ze a), some (ze h), some (ze l), some (ze hf), some (ze lf), o] M =
    some (.nx [some (ze p), some (ze a), some (ze l), some (ze (h - h / l * l)), some (ze lf), some (ze (hf - h / l * lf)), some (ze (h / l))] M) := by
  refine sSeq_nx (M1 := M) (sAsg_eq (M1 := M) (eOp_eq (M1 := M) (x := ze h) (y := ze l) rfl rfl (l_div hl hl2)) rfl) ?_
  refine sSeq_nx (M1 := M) (sPar_eq (M1 := M) (aCons_eq (x := ze l) (M1 := M) rfl (aCons_eq (M1 := M) (eOp_eq (M1 := M) (x := ze h) rfl (eOp_eq (M1 := M) (x := ze (h / l)) (y := ze l) rfl rfl (l_mul (.inl ht))) l_sub) rfl))) ?_
  exact sPar_eq (M1 := M) (aCons_eq (x := ze lf) (M1 := M) rfl (aCons_eq (M1 := M) (eOp_eq (M1 := M) (x := ze hf) rfl (eOp_eq (M1 := M) (x := ze (h / l)) (y := ze lf) rfl rfl (l_mul (.inl ht))) l_sub) rfl))
theorem con_loop (p a : Int) (M : Mem) : ∀ (n : Nat) (h l : Nat) (hf lf : Int) (o : Option SV), l < n → h < 2 ^ 60 → l < 2 ^ 60 → Nat.gcd h l = 1 → p ∣ a * hf - (h : Int) → p ∣ a * lf - (l : Int) →
    ∃ x y z, whl (bTru (eVar 3)) (sSeq (sAsg (eOp (lift2 dDiv) (eVar 2) (eVar 3)) (gNm 6))
    (sSeq (sPar 2 3 (aCons (eVar 3) (aCons (eOp (lift2 dSub) (eVar 2) (eOp (lift2 dMul) (eVar 6) (eVar 3))) aNil)))
    (sPar 4 5 (aCons (eVar 5) (aCons (eOp (lift2 dSub) (eVar 4) (eOp (lift2 dMul) (eVar 6) (eVar 5))) aNil))))) n
    [some (ze p), some (ze a), some (ze (h : Int)), some (ze (l : Int)), some (ze hf), some (ze lf), o] M = some (.nx [some (ze p), some (ze a), some (ze 1), some (ze 0), some (ze x), some (ze y), z] M) ∧ p ∣ a * x - 1
  | 0, h, l, hf, lf, o, hn, _, _, _, _, _ => by omega
  | n + 1, h, l, hf, lf, o, hn, hh, hl2, hg, d1, d2 => by
    by_cases hl : l = 0
    · subst hl
      rw [Nat.gcd_zero_right] at hg
      subst hg
      exact ⟨hf, lf, o, rfl, d1⟩
    · have hl0 : 0 < l := Nat.pos_of_ne_zero hl
      have hq : ((h : Int) / (l : Int)) = ((h / l : Nat) : Int) := (Int.natCast_ediv h l).symm ▸ rfl
      have hqb : (h / l : Nat) ≤ h := Nat.div_le_self h l
      have hr : (h : Int) - (h : Int) / (l : Int) * (l : Int) = ((h % l : Nat) : Int) := by
        have e := Nat.div_add_mod h l
        have e' : (l : Int) * ((h / l : Nat) : Int) + ((h % l : Nat) : Int) = (h : Int) := by exact_mod_cast e
        rw [hq, Int.mul_comm]
        omega
      have turn := con_turn (p := p) (a := a) (h := (h : Int)) (l := (l : Int)) (hf := hf) (lf := lf) (o := o) (M := M) (by omega) (by omega) (by rw [hq]; generalize h / l = q at hqb; omega)
      rw [hr] at turn
      have hlt : h % l < l := Nat.mod_lt h hl0
      have g2 : Nat.gcd l (h % l) = 1 := by
        rw [Nat.gcd_comm, ← Nat.gcd_rec, Nat.gcd_comm]; exact hg
      have d3 : p ∣ a * (hf - (h : Int) / (l : Int) * lf) - ((h % l : Nat) : Int) := by
        have e : a * (hf - (h : Int) / (l : Int) * lf) - ((h % l : Nat) : Int) = (a * hf - (h : Int)) - (h : Int) / (l : Int) * (a * lf - (l : Int)) := by
          rw [← hr, Int.mul_sub, Int.mul_sub]
          have : a * ((h : Int) / (l : Int) * lf) = (h : Int) / (l : Int) * (a * lf) := by
            rw [← Int.mul_assoc, ← Int.mul_assoc, Int.mul_comm a]
          rw [this]; omega
        rw [e]
        exact Int.dvd_sub d1 (Int.dvd_mul_of_dvd_right d2)
      obtain ⟨x, y, z, e, hd⟩ := con_loop p a M n l (h % l) lf (hf - (h : Int) / (l : Int) * lf) (some (ze ((h : Int) / (l : Int)))) (by omega) hl2 (by omega) g2 d2 d3
      refine ⟨x, y, z, ?_, hd⟩
      have tst : bTru (eVar 3) [some (ze p), some (ze a), some (ze (h : Int)), some (ze (l : Int)), some (ze hf), some (ze lf), o] M = some (true, M) := by
        show some ((l : Int) != 0, M) = _
        rw [show ((l : Int) != 0) = true from by simp; omega]
      exact whl_nx tst turn e
/-! ### what a row is worth -/
theorem worth_loop {p x : Int} {M : Mem} {v1 : SV} (hp : 0 < p) (hx : -(2 ^ 64) < x ∧ x < 2 ^ 64) : ∀ (rs : List Int) (tail : List PyData) (o : Option SV) (w : Int), ∃ o', loop (gNm 4) (sAsg (eOp (lift2 dMod) (eOp (lift2 dAdd) (eOp (lift2 dMul) (eVar 3) (eVar 2)) (eVar 4)) (eVar 0)) (gNm 3)) ((rs.map PyData.int).reverse ++ tail) [some (ze p), some v1, some (ze x), some (ze w), o] M =
    loop (gNm 4) (sAsg (eOp (lift2 dMod) (eOp (lift2 dAdd) (eOp (lift2 dMul) (eVar 3) (eVar 2)) (eVar 4)) (eVar 0)) (gNm 3)) tail [some (ze p), some v1, some (ze x), some (ze (rs.foldr (fun r w => (w * x + r) % p) w)), o'] M
  | [], tail, o, w => ⟨o, rfl⟩
  | r :: rs, tail, o, w => by
    obtain ⟨o1, e⟩ := worth_loop hp hx rs (.int r :: tail) o w
    refine ⟨some (ze r), ?_⟩
    rw [List.map_cons, List.reverse_cons, List.append_assoc, List.singleton_append, e]
    refine loop_nx (M1 := M) (M2 := M) rfl (sAsg_eq (M1 := M) (eOp_eq (M1 := M) (eOp_eq (M1 := M) (eOp_eq (M1 := M) (x := ze _) (y := ze x) rfl rfl (l_mul (.inr hx))) (y := ze r) rfl l_add) (y := ze p) rfl (l_mod hp)) rfl) rfl
/-! ### rows added -/
/-! ### rows as sums of powers: a row that is worth nought at as many unlike points as it has rests is noughts -/
def prs12 : List Int := [11, 13, 211, 11, 17, 101, 199, 31, 61, 113, 157, 23]
theorem prs12_P : ∀ p ∈ prs12, PrP p.toNat := by
  have h : ∀ p ∈ prs12.map Int.toNat, 2 ≤ p ∧ p < 1000 ∧ ∀ a : Nat, a < p → 0 < a → Nat.gcd p a = 1 := by decide +kernel
  intro p hp
  obtain ⟨h1, h2, h3⟩ := h p.toNat (List.mem_map.mpr ⟨p, hp, rfl⟩)
  exact ⟨h1, h2, fun a h0 h => h3 a h h0⟩

abbrev Lb_law_3_1 : SS := (sSeq (sAsg (eCall F_xshape (aCons (eVar 1) (aCons (eC (.int 5)) aNil))) (gNm 4))
    (sSeq (sAsg (eCall F_xhouses (aCons (eVar 1) (aCons (eOp fIx (eVar 4) (eC (.int 0))) (aCons (eOp fIx (eVar 4) (eC (.int 2))) aNil)))) (gNm 5))
    (sApp (eVar 2) (eLst (aCons (eVar 4) (aCons (eVar 5) (aCons (eCall F_xown (aCons (eVar 4) (aCons (eVar 5) aNil))) aNil)))))))
abbrev Lb_law_4_1 : SS := (sSeq (sAsg (eCall F_own_laying (aCons (eVar 4) (aCons (eVar 5) aNil))) (gNm 7))
    (sIf (bOr (bVal (eOp (lift2 dNe) (eCB (one (lift1 dRepr)) (aCons (eVar 7) aNil)) (eCB (one (lift1 dRepr)) (aCons (eVar 6) aNil)))) (bVal (eOp (lift2 dNotB) (eCall F_is_laying (aCons (eVar 7) aNil)) (eC (.bool true))))) (sRet (eC (.bool false))) sNext))

/-! ### rooms: rows cleared, what is left, forms -/
theorem with_any {p : Nat} {f : Int} {a b : List Int} {M : Mem} {d1 d2 : PyData} (h1 : seqD d1 = some (a.map PyData.int)) (h2 : seqD d2 = some (b.map PyData.int)) (hp : 0 < p) (hf : -(2 ^ 64) < f ∧ f < 2 ^ 64) (hl : a.length ≤ 1000) : F_with_multiple [ze (p : Int), .dat d1, .dat d2, ze f] M = some (.dat (lD (RR.plus p f a b)), M) := by
  refine mkF_rtL (M1 := M) rfl (sRet_eq ?_)
  have it : iZp (aCons (eVar 1) (aCons (eVar 2) aNil)) [some (ze (p : Int)), some (.dat d1), some (.dat d2), some (ze f), none, none] M = some ((a.zip b).map fun q => PyData.tuple [.int q.1, .int q.2], M) := by
    rw [iZp_e (M1 := M) (d := d1) (e := d2) rfl h1 h2]
    unfold zipD
    rw [List.zip_map, List.map_map]; rfl
  have lc := lcL_map (g := gTp [4, 5]) (el := eOp (lift2 dMod) (eOp (lift2 dAdd) (eVar 4) (eOp (lift2 dMul) (eVar 3) (eVar 5))) (eVar 0)) (ρ := [some (ze (p : Int)), some (.dat d1), some (.dat d2), some (ze f), none, none]) (M := M)
    (f := fun d => match d with | .tuple [.int x, .int y] => .int ((x + f * y) % (p : Int)) | d => d) ((a.zip b).map fun q => PyData.tuple [.int q.1, .int q.2]) (by
      intro d hd
      obtain ⟨q, _, rfl⟩ := List.mem_map.mp hd
      exact ⟨_, rfl, eOp_eq (M1 := M) (eOp_eq (M1 := M) (x := ze q.1) rfl (eOp_eq (M1 := M) (x := ze f) (y := ze q.2) rfl rfl (l_mul (.inl hf))) l_add) (y := ze (p : Int)) rfl (l_mod (by omega))⟩)
  have e : (((a.zip b).map fun q => PyData.tuple [.int q.1, .int q.2]).map fun d => match d with | .tuple [.int x, .int y] => PyData.int ((x + f * y) % (p : Int)) | d => d) = (RR.plus p f a b).map PyData.int := by
    unfold RR.plus
    rw [List.map_map, List.map_map]; rfl
  rw [e] at lc
  exact eLc_eq (M1 := M) it (by rw [List.length_map, List.length_zip]; omega) lc
theorem look_at {k : List Int → PyData} : ∀ {G : List (Nat × List Int)} {g : Nat × List Int}, (G.map Prod.fst).Nodup → g ∈ G → lookD (G.map fun g => (PyData.int (g.1 : Int), k g.2)) (.inl (g.1 : Int)) = some (k g.2)
  | h :: G, g, nd, hg => by
    rw [List.map_cons, List.nodup_cons] at nd
    rw [List.map_cons]
    unfold lookD
    rcases List.mem_cons.mp hg with e | e
    · subst e
      exact if_pos rfl
    · have hne : ¬ keyOf (PyData.int (h.1 : Int)) = some (Sum.inl (g.1 : Int)) := fun z => by
        simp only [keyOf, Option.some.injEq, Sum.inl.injEq] at z
        have : h.1 = g.1 := by omega
        exact nd.1 (by rw [this]; exact List.mem_map_of_mem e)
      rw [if_neg hne]
      exact look_at nd.2 e
theorem look_no {k : List Int → PyData} {c : Nat} : ∀ {G : List (Nat × List Int)}, c ∉ G.map Prod.fst → lookD (G.map fun g => (PyData.int (g.1 : Int), k g.2)) (.inl (c : Int)) = none ∧ hasD (G.map fun g => (PyData.int (g.1 : Int), k g.2)) (.inl (c : Int)) = false
  | [], _ => ⟨rfl, rfl⟩
  | h :: G, hc => by
    rw [List.map_cons] at hc ⊢
    obtain ⟨h1, h2⟩ := look_no (k := k) (G := G) fun z => hc (List.mem_cons_of_mem _ z)
    have hne : ¬ keyOf (PyData.int (h.1 : Int)) = some (Sum.inl (c : Int)) := fun z => by
      simp only [keyOf, Option.some.injEq, Sum.inl.injEq] at z
      have : h.1 = c := by omega
      exact hc (by rw [this]; exact List.mem_cons_self)
    constructor
    · unfold lookD
      rw [if_neg hne]; exact h1
    · unfold hasD at h2 ⊢
      rw [List.any_cons, h2, decide_eq_false hne]; rfl
theorem get_at {k : List Int → PyData} {G : List (Nat × List Int)} {g : Nat × List Int} (nd : (G.map Prod.fst).Nodup) (hg : g ∈ G) {M : Mem} : fDGet M (.dat (fD k G)) (ze (g.1 : Int)) = some (.dat (k g.2)) := by
  simp only [fDGet, keyOf, Option.bind_some, look_at nd hg]
theorem keys_it {k : List Int → PyData} {G : List (Nat × List Int)} {a : SE} {ρ : Rho} {M M1 : Mem} (h : a ρ M = some (.dat (fD k G), M1)) : iDatK a ρ M = some (G.map fun g => PyData.int (g.1 : Int), M1) := by
  simp only [iDatK, h, Option.bind_some, List.map_map]; rfl
abbrev Kd (k : List Int → PyData) : Prop := ∀ l : List Int, seqD (k l) = some (l.map PyData.int)
theorem kd_l : Kd lD := fun _ => rfl
theorem kd_r : Kd rD := fun _ => rfl
theorem mods {p n : Nat} {v : List Int} (h : RR.Bd p n v) : v.map (fun z => z % (p : Int)) = v := by
  have : ∀ l : List Int, (∀ z ∈ l, 0 ≤ z ∧ z < (p : Int)) → l.map (fun z => z % (p : Int)) = l := by
    intro l
    induction l with
    | nil => intro _; rfl
    | cons z l ih =>
      intro hl
      have hz := hl z List.mem_cons_self
      rw [List.map_cons, Int.emod_eq_of_lt hz.1 hz.2, ih fun y hy => hl y (List.mem_cons_of_mem _ hy)]
  exact this v h.2
/-! first places -/
def fst0 (l : List Int) : Option Nat := l.findIdx? (fun z => z != 0)
def optD : Option Nat → PyData
  | none => .none
  | some c => .int (c : Int)
theorem fst0_some {l : List Int} {c : Nat} (h : fst0 l = some c) : c < l.length ∧ RR.fn l c ≠ 0 ∧ ∀ j, j < c → RR.fn l j = 0 := by
  unfold fst0 at h
  rw [List.findIdx?_eq_some_iff_getElem] at h
  obtain ⟨hc, h1, h2⟩ := h
  have at1 : ∀ j (hj : j < l.length), RR.fn l j = l[j] := fun j hj => by
    show l.getD j 0 = _
    rw [List.getD_eq_getElem?_getD, List.getElem?_eq_getElem hj]; rfl
  refine ⟨hc, ?_, fun j hj => ?_⟩
  · rw [at1 c hc]; simpa using h1
  · rw [at1 j (by omega)]
    have := h2 j hj
    simpa using this
theorem fst0_none {l : List Int} (h : fst0 l = none) (j : Nat) : RR.fn l j = 0 := by
  unfold fst0 at h
  rw [List.findIdx?_eq_none_iff] at h
  show l.getD j 0 = 0
  rw [List.getD_eq_getElem?_getD]
  cases e : l[j]? with
  | none => rfl
  | some z =>
    have := h z (List.mem_of_getElem? e)
    simpa using this
theorem fst0_zero {p n : Nat} {l : List Int} (hl : RR.Bd p n l) : fst0 l = none ↔ ∀ j, j < n → RR.fn l j = 0 := by
  constructor
  · intro h j _; exact fst0_none h j
  · intro h
    cases e : fst0 l with
    | none => rfl
    | some c =>
      obtain ⟨h1, h2, _⟩ := fst0_some e
      rw [hl.1] at h1
      exact absurd (h c h1) h2
theorem fst0_lead {p n : Nat} {G : List (Nat × List Int)} (h : RR.PF p n G) {g : Nat × List Int} (hg : g ∈ G) : fst0 g.2 = some g.1 := by
  have b := h.bd g hg
  have o := h.one g hg
  cases e : fst0 g.2 with
  | none => rw [fst0_none e] at o; cases o
  | some c =>
    obtain ⟨h1, h2, h3⟩ := fst0_some e
    rcases Nat.lt_trichotomy c g.1 with q | q | q
    · exact absurd (h.lead g hg c q) h2
    · rw [q]
    · rw [h3 g.1 q] at o; cases o
/-! a row more -/
theorem mem_getL {M : Mem} {x : Option (List SV)} : (M ++ [x])[M.length]? = some x := by
  rw [List.getElem?_append_right (Nat.le_refl _), Nat.sub_self]; rfl
theorem rep0e {ρ : Rho} {M : Mem} {d : Nat} {e : SE} (he : e ρ (M ++ [some [ze 0]]) = some (ze (d : Int), M ++ [some [ze 0]])) (hd : d ≤ 1000) : eFrz (eRepN (eNew (aCons (eC (.int 0)) aNil)) e) ρ M = some (.dat (lD (List.replicate d 0)), M ++ [some [ze 0]] ++ [none]) := by
  have h1 : eNew (aCons (eC (.int 0)) aNil) ρ M = some (.cel M.length, M ++ [some [ze 0]]) := rfl
  have h3 : cellAt (M ++ [some [ze 0]]) (.cel M.length) = some (M.length, [ze 0]) := by
    simp [cellAt]
  have h4 : eRepN (eNew (aCons (eC (.int 0)) aNil)) e ρ M = some (.cel (M ++ [some [ze 0]]).length, M ++ [some [ze 0]] ++ [some ((List.replicate d [PyData.int 0]).flatten.map SV.dat)]) := by
    unfold eRepN
    rw [h1]
    simp only [Option.bind_some, he, h3, intV, dats]
    rw [if_pos ⟨by omega, by omega, by decide⟩, Int.toNat_natCast]
  have h5 : (List.replicate d [PyData.int 0]).flatten = (List.replicate d (0 : Int)).map PyData.int := by
    clear h4 he hd
    induction d with
    | zero => rfl
    | succ d ih => rw [List.replicate_succ, List.flatten_cons, ih, List.replicate_succ]; rfl
  rw [h5] at h4
  unfold eFrz
  rw [h4]
  simp only [Option.bind_some]
  rw [mem_getL]
  simp only [dats_map, Option.bind_some]
  congr 2
  rw [List.set_append_right _ _ (Nat.le_refl _), Nat.sub_self]; rfl
theorem dc_map {g : SG} {kx vx : SE} {ρ : Rho} {M : Mem} {kf : PyData → Nat} {vf : PyData → PyData} : ∀ (ds : List PyData) (acc : List (PyData × PyData)), (∀ d ∈ ds, ∃ ρ1, g (.dat d) ρ M = some (ρ1, M) ∧ kx ρ1 M = some (ze (kf d : Int), M) ∧ vx ρ1 M = some (.dat (vf d), M)) → (ds.map kf).Nodup → (∀ d ∈ ds, hasD acc (.inl (kf d : Int)) = false) →
    dcL g bYes kx vx ρ ds acc M = some (acc ++ ds.map fun d => (PyData.int (kf d : Int), vf d), M)
  | [], acc, _, _, _ => by rw [List.map_nil, List.append_nil]; rfl
  | d :: ds, acc, h, nd, ha => by
    obtain ⟨ρ1, e1, e2, e3⟩ := h d List.mem_cons_self
    rw [List.map_cons, List.nodup_cons] at nd
    have hp : putD acc (.inl (kf d : Int)) (vf d) = acc ++ [(PyData.int (kf d : Int), vf d)] := by
      unfold putD
      rw [ha d List.mem_cons_self]; rfl
    have ih := dc_map (g := g) (kx := kx) (vx := vx) (ρ := ρ) (M := M) (kf := kf) (vf := vf) ds (acc ++ [(PyData.int (kf d : Int), vf d)]) (fun x hx => h x (List.mem_cons_of_mem _ hx)) nd.2 (fun x hx => by
      have h1 := ha x (List.mem_cons_of_mem _ hx)
      unfold hasD at h1 ⊢
      rw [List.any_append, h1, Bool.false_or, List.any_cons, List.any_nil, Bool.or_false]
      refine decide_eq_false fun z => ?_
      simp only [keyOf, Option.some.injEq, Sum.inl.injEq] at z
      have : kf d = kf x := by omega
      exact nd.1 (by rw [this]; exact List.mem_map_of_mem hx))
    simp only [dcL, e1, Option.bind_some, bYes, if_true, e2, e3, keyOf, hp, ih, List.map_cons, List.append_assoc, List.singleton_append]
theorem find_at : ∀ {G : List (Nat × List Int)} {g : Nat × List Int}, (G.map Prod.fst).Nodup → g ∈ G → G.find? (fun x => x.1 == g.1) = some g
  | x :: G, g, nd, hg => by
    rw [List.map_cons, List.nodup_cons] at nd
    rw [List.find?_cons]
    rcases List.mem_cons.mp hg with e | e
    · subst e; simp
    · have : (x.1 == g.1) = false := by
        rw [beq_eq_false_iff_ne]
        intro z
        exact nd.1 (by rw [z]; exact List.mem_map_of_mem e)
      rw [this]
      exact find_at nd.2 e
/-! ### forms of rows -/
theorem zero_bd {p n : Nat} (hp : 0 < p) : RR.Bd p n (List.replicate n 0) := ⟨List.length_replicate, fun z hz => by rw [List.eq_of_mem_replicate hz]; omega⟩

theorem l_repR {M : Mem} {k : Nat} (h1 : k ≤ 1000) : lift2 dMul M (.dat (.tuple [.int 0])) (ze (k : Int)) = some (.dat (rD (List.replicate k 0))) := by
  have fl : (List.replicate k [PyData.int 0]).flatten = (List.replicate k (0 : Int)).map PyData.int := by
    clear h1
    induction k with
    | zero => rfl
    | succ d ih => rw [List.replicate_succ, List.flatten_cons, ih, List.replicate_succ]; rfl
  have h0 : (0 : Int) ≤ (k : Int) ∧ (k : Int) ≤ 1000 := by omega
  simp only [lift2, dMul]
  rw [if_pos (by simp; omega)]
  simp only [Option.bind_some, Int.toNat_natCast, fl]

end Lk44

namespace Lk44
open PySem Sm L2
local macro_rules
  | `(tactic| walk_at "le") => `(tactic| ((try simp only [List.length_cons, List.length_nil, List.length_append, List.length_map]); omega))
local macro_rules
  | `(tactic| walk_at "smb") => `(tactic| first
    | with_reducible assumption
    | with_reducible rfl
    | assumption
    | rfl
    | (simp only [decide_eq_true_eq, decide_eq_false_iff_not, beq_iff_eq, Bool.not_eq_true', Bool.not_eq_false', beq_eq_false_iff_ne, Bool.and_eq_true, Bool.or_eq_true, Bool.not_eq_true, Bool.not_eq_false, ne_eq, Bool.and_eq_false_imp, Bool.or_eq_false_iff]; omega))
local macro_rules
  | `(tactic| walk_at "smf") => `(tactic| fail "no call")
local macro_rules
  | `(tactic| walk_at "sml") => `(tactic| first
    | with_reducible assumption
    | with_reducible exact l_add
    | with_reducible exact l_sub
    | with_reducible exact l_eq
    | with_reducible exact l_ne
    | with_reducible exact l_lt
    | with_reducible exact l_le
    | with_reducible exact l_gt
    | with_reducible exact l_ge
    | with_reducible exact l_eqSS
    | with_reducible exact l_neSS
    | with_reducible exact l_eqBS
    | with_reducible exact l_neBS
    | with_reducible exact l_eqB
    | with_reducible exact l_neB
    | with_reducible exact l_eqS
    | with_reducible exact l_neS
    | with_reducible exact l_neg
    | with_reducible exact isi_int _
    | with_reducible exact isi_bool _
    | with_reducible exact isi_tup _
    | with_reducible exact l_lenL
    | with_reducible exact l_lenT
    | with_reducible exact l_slL
    | with_reducible exact l_slT
    | ((with_reducible apply l_mod); (walk_at "smo"))
    | ((with_reducible apply l_mul); (walk_at "smo"))
    | ((with_reducible apply l_div); (walk_at "smo"); (walk_at "smo"))
    | ((with_reducible apply l_addT); rfl)
    | ((with_reducible apply l_addL); rfl)
    | ((with_reducible apply l_ixL); first | assumption | rfl)
    | ((with_reducible apply l_ixT); first | assumption | rfl)
    | ((with_reducible apply one_eq); (walk_at "sml"))
    | with_reducible assumption
    | rfl)
local macro_rules
  | `(tactic| walk_at "smo") => `(tactic| first | assumption | omega)
local macro_rules
  | `(tactic| walk_at "sm") => `(tactic| first
    | with_reducible assumption
    | with_reducible exact aNil_eq
    | with_reducible exact eC_eq
    | with_reducible exact sNext_eq
    | with_reducible exact eD0_eq
    | ((with_reducible apply eD1_eq); (walk_at "sm"))
    | ((with_reducible apply eC_e); rfl)
    | with_reducible exact oNone_eq
    | ((with_reducible apply eVar_eq); rfl)
    | ((with_reducible apply aCons_eq); (walk_at "sm"); (walk_at "sm"))
    | ((with_reducible apply eOp_eq); (walk_at "sm"); (walk_at "sm"); (walk_at "sml"))
    | ((with_reducible apply eUn_eq); (walk_at "sm"); (walk_at "sml"))
    | ((with_reducible apply eCB_eq); (walk_at "sm"); (walk_at "sml"))
    | ((with_reducible apply eCall_eq); (walk_at "sm"); (first | with_reducible assumption | walk_at "smf"))
    | ((with_reducible apply eTup_e); (walk_at "sm"); rfl; rfl)
    | ((with_reducible apply eLst_e); (walk_at "sm"); rfl; rfl)
    | ((with_reducible apply oSome_eq); (walk_at "sm"))
    | ((with_reducible apply eSl_eq); (walk_at "sm"); (walk_at "sm"); (walk_at "sm"); (walk_at "sml"))
    | ((with_reducible apply eNot_eq); (walk_at "sm"))
    | ((with_reducible apply bNot_eq); (walk_at "sm"))
    | ((with_reducible apply bVal_eq); (walk_at "sm"))
    | ((with_reducible apply bTru_b); (walk_at "sm"))
    | ((with_reducible apply eChain_e); (walk_at "sm"); (walk_at "sm"); (walk_at "sml"); (walk_at "sm"); (walk_at "sml"))
    | ((with_reducible apply eChain3_e); (walk_at "sm"); (walk_at "sm"); (walk_at "sml"); (walk_at "sm"); (walk_at "sml"); (walk_at "sm"); (walk_at "sml"))
    | ((with_reducible apply bOr_e); (walk_at "sm"); (first | ((apply ite_T); (walk_at "smb"); rfl) | ((apply ite_F); (walk_at "smb"); (walk_at "sm")) | ((apply or_gen); (walk_at "sm"))))
    | ((with_reducible apply bAnd_e); (walk_at "sm"); (first | ((apply ite_F); (walk_at "smb"); rfl) | ((apply ite_T); (walk_at "smb"); (walk_at "sm")) | ((apply and_gen); (walk_at "sm"))))
    | ((with_reducible apply eOr_e); (walk_at "sm"); (first | ((apply ite_T); (walk_at "smb"); rfl) | ((apply ite_F); (walk_at "smb"); (walk_at "sm")) | ((apply eor_gen); (walk_at "sm"))))
    | ((with_reducible apply eAnd_e); (walk_at "sm"); (first | ((apply ite_F); (walk_at "smb"); rfl) | ((apply ite_T); (walk_at "smb"); (walk_at "sm")) | ((apply eand_gen); (walk_at "sm"))))
    | ((with_reducible apply eIf_e); (walk_at "sm"); (first | ((apply ite_T); (walk_at "smb"); (walk_at "sm")) | ((apply ite_F); (walk_at "smb"); (walk_at "sm"))))
    | ((with_reducible apply sIf_e); (walk_at "sm"); (first | ((apply ite_T); (walk_at "smb"); (walk_at "sm")) | ((apply ite_F); (walk_at "smb"); (walk_at "sm"))))
    | ((with_reducible apply sSeq_e); (walk_at "sm"); (first | with_reducible exact seqK_rt | ((with_reducible apply seqK_nx); (walk_at "sm")) | ((with_reducible refine Eq.trans seqK_rt ?_); rfl)))
    | ((with_reducible apply sRet_eq); (walk_at "sm"))
    | ((with_reducible apply sAsg_eq); (walk_at "sm"); (walk_at "smg"))
    | with_reducible assumption
    | walk_at "smx")
local macro_rules
  | `(tactic| walk_at "smx") => `(tactic| fail "no step")
local macro_rules
  | `(tactic| walk_at "smg") => `(tactic| first
    | ((with_reducible apply gNm_e); ((dsimp only [List.set]) <;> rfl))
    | ((with_reducible apply gTp_e); rfl; ((dsimp only [setAll, List.set]) <;> rfl))
    | rfl)

/-! ### powers, whatever memory there is -/
theorem powers_okM {p x : Int} {n : Nat} {M : Mem} (hp : 0 < p) (hx : -(2 ^ 64) < x ∧ x < 2 ^ 64) (hn : n ≤ 1000) :
    F_powers_of [ze p, ze (n : Int), ze x] M = some (.dat (.tuple ((pwl p x n).map PyData.int)), M) := by
  obtain ⟨ρ', M', e, o', hρ, hM⟩ := loop_inv (g := gNm 5) (s := sSeq (sApp (eVar 3) (eVar 4)) (sAsg (eOp (lift2 dMod) (eOp (lift2 dMul) (eVar 4) (eVar 2)) (eVar 0)) (gNm 4)))
    (fun k ρ M1 => ∃ o, ρ = [some (ze p), some (ze (n : Int)), some (ze x), some (.cel M.length), some (ze (pw p x k)), o] ∧ M1 = M ++ [some (((pwl p x k).map PyData.int).map SV.dat)]) (rangeD 0 (n : Int)) 0 [some (ze p), some (ze (n : Int)), some (ze x), some (.cel M.length), some (ze 1), none] (M ++ [some []]) ⟨none, rfl, rfl⟩ (by
      rintro i d ρ M1 hd ⟨o, rfl, rfl⟩
      have hi : i < (rangeD 0 (n : Int)).length := (List.getElem?_eq_some_iff.mp hd).1
      rw [rangeD_len] at hi
      rw [Nat.zero_add]
      refine ⟨_, _, [some (ze p), some (ze (n : Int)), some (ze x), some (.cel M.length), some (ze (pw p x (i + 1))), some (.dat d)], M ++ [some (((pwl p x (i + 1)).map PyData.int).map SV.dat)], rfl, ?_, some (.dat d), rfl, rfl⟩
      refine sSeq_nx (M1 := M ++ [some (((pwl p x (i + 1)).map PyData.int).map SV.dat)]) (ρ1 := [some (ze p), some (ze (n : Int)), some (ze x), some (.cel M.length), some (ze (pw p x i)), some (.dat d)]) ?_ ?_
      · have a := sApp_eq (ρ := [some (ze p), some (ze (n : Int)), some (ze x), some (.cel M.length), some (ze (pw p x i)), some (.dat d)]) (o := eVar 3) (a := eVar 4) (M := M ++ [some (((pwl p x i).map PyData.int).map SV.dat)]) (M1 := M ++ [some (((pwl p x i).map PyData.int).map SV.dat)]) (M2 := M ++ [some (((pwl p x i).map PyData.int).map SV.dat)]) (i := M.length) (d := .int (pw p x i)) rfl rfl (mem_get _ _) (mem_get _ _) (by rw [List.length_map, List.length_map, pwl_len]; omega)
        rw [mem_set] at a
        rw [pwl_succ, List.map_append, List.map_append]
        exact a
      · exact sAsg_eq (M1 := M ++ [some (((pwl p x (i + 1)).map PyData.int).map SV.dat)]) (eOp_eq (M1 := M ++ [some (((pwl p x (i + 1)).map PyData.int).map SV.dat)]) (eOp_eq (M1 := M ++ [some (((pwl p x (i + 1)).map PyData.int).map SV.dat)]) (x := ze (pw p x i)) (y := ze x) rfl rfl (l_mul (.inr hx))) (y := ze p) rfl (l_mod hp)) rfl)
  have hl : 0 + (rangeD 0 (n : Int)).length = n := by rw [rangeD_len]; omega
  rw [hl] at hρ hM
  subst hρ hM
  have r : mkF 6 B_powers_of [ze p, ze (n : Int), ze x] M = some (.dat (.tuple ((pwl p x n).map PyData.int)), (M ++ [none]).take M.length) := by
    refine mkF_rt (M1 := M ++ [none]) ?_
    refine sSeq_nx (M1 := M ++ [some []]) (ρ1 := [some (ze p), some (ze (n : Int)), some (ze x), some (.cel M.length), none, none]) rfl (sSeq_nx (M1 := M ++ [some []]) (ρ1 := [some (ze p), some (ze (n : Int)), some (ze x), some (.cel M.length), some (ze 1), none]) rfl ?_)
    refine sSeq_nx (M1 := M ++ [none]) (ρ1 := [some (ze p), some (ze (n : Int)), some (ze x), some (.dat (.list ((pwl p x n).map PyData.int))), some (ze (pw p x n)), o']) ?_ rfl
    have f := sFrz_eq (i := 3) (j := M.length) (M1 := M ++ [some (((pwl p x n).map PyData.int).map SV.dat)]) (sFor_eq (M1 := M ++ [some []]) (iR1_eq (M1 := M ++ [some []]) (aCons_eq (x := ze (n : Int)) (M1 := M ++ [some []]) (a := eVar 1) (as := aNil) rfl rfl) (by omega) (by omega)) e) rfl (mem_get _ _) (dats_map _)
    rw [mem_set] at f
    exact f
  rw [mem_take] at r
  exact r

/-! ### the places, all of them -/
abbrev plD (k d : Nat) : PyData := .tuple ((plc k d).map fun q => .tuple [.int (q.1 : Int), .int (q.2 : Int)])
theorem places_11 (p l : Int) (M : Mem) : F_places_of [.dat (shD p ((1 : Nat) : Int) ((1 : Nat) : Int) l)] M = some (SV.dat (plD 1 1), M) := by
  have z : M.take M.length = M := List.take_length
  have : F_places_of [.dat (shD p ((1 : Nat) : Int) ((1 : Nat) : Int) l)] M = some (SV.dat (plD 1 1), M.take M.length) := by kernel_rfl
  rw [this, z]
theorem places_12 (p l : Int) (M : Mem) : F_places_of [.dat (shD p ((1 : Nat) : Int) ((2 : Nat) : Int) l)] M = some (SV.dat (plD 1 2), M) := by
  have z : M.take M.length = M := List.take_length
  have : F_places_of [.dat (shD p ((1 : Nat) : Int) ((2 : Nat) : Int) l)] M = some (SV.dat (plD 1 2), M.take M.length) := by kernel_rfl
  rw [this, z]
theorem places_22 (p l : Int) (M : Mem) : F_places_of [.dat (shD p ((2 : Nat) : Int) ((2 : Nat) : Int) l)] M = some (SV.dat (plD 2 2), M) := by
  have z : M.take M.length = M := List.take_length
  have : F_places_of [.dat (shD p ((2 : Nat) : Int) ((2 : Nat) : Int) l)] M = some (SV.dat (plD 2 2), M.take M.length) := by kernel_rfl
  rw [this, z]
theorem places_13 (p l : Int) (M : Mem) : F_places_of [.dat (shD p ((1 : Nat) : Int) ((3 : Nat) : Int) l)] M = some (SV.dat (plD 1 3), M) := by
  have z : M.take M.length = M := List.take_length
  have : F_places_of [.dat (shD p ((1 : Nat) : Int) ((3 : Nat) : Int) l)] M = some (SV.dat (plD 1 3), M.take M.length) := by kernel_rfl
  rw [this, z]
theorem places_23 (p l : Int) (M : Mem) : F_places_of [.dat (shD p ((2 : Nat) : Int) ((3 : Nat) : Int) l)] M = some (SV.dat (plD 2 3), M) := by
  have z : M.take M.length = M := List.take_length
  have : F_places_of [.dat (shD p ((2 : Nat) : Int) ((3 : Nat) : Int) l)] M = some (SV.dat (plD 2 3), M.take M.length) := by kernel_rfl
  rw [this, z]
theorem places_33 (p l : Int) (M : Mem) : F_places_of [.dat (shD p ((3 : Nat) : Int) ((3 : Nat) : Int) l)] M = some (SV.dat (plD 3 3), M) := by
  have z : M.take M.length = M := List.take_length
  have : F_places_of [.dat (shD p ((3 : Nat) : Int) ((3 : Nat) : Int) l)] M = some (SV.dat (plD 3 3), M.take M.length) := by kernel_rfl
  rw [this, z]
theorem places_14 (p l : Int) (M : Mem) : F_places_of [.dat (shD p ((1 : Nat) : Int) ((4 : Nat) : Int) l)] M = some (SV.dat (plD 1 4), M) := by
  have z : M.take M.length = M := List.take_length
  have : F_places_of [.dat (shD p ((1 : Nat) : Int) ((4 : Nat) : Int) l)] M = some (SV.dat (plD 1 4), M.take M.length) := by kernel_rfl
  rw [this, z]
theorem places_24 (p l : Int) (M : Mem) : F_places_of [.dat (shD p ((2 : Nat) : Int) ((4 : Nat) : Int) l)] M = some (SV.dat (plD 2 4), M) := by
  have z : M.take M.length = M := List.take_length
  have : F_places_of [.dat (shD p ((2 : Nat) : Int) ((4 : Nat) : Int) l)] M = some (SV.dat (plD 2 4), M.take M.length) := by kernel_rfl
  rw [this, z]
theorem places_34 (p l : Int) (M : Mem) : F_places_of [.dat (shD p ((3 : Nat) : Int) ((4 : Nat) : Int) l)] M = some (SV.dat (plD 3 4), M) := by
  have z : M.take M.length = M := List.take_length
  have : F_places_of [.dat (shD p ((3 : Nat) : Int) ((4 : Nat) : Int) l)] M = some (SV.dat (plD 3 4), M.take M.length) := by kernel_rfl
  rw [this, z]
theorem places_44 (p l : Int) (M : Mem) : F_places_of [.dat (shD p ((4 : Nat) : Int) ((4 : Nat) : Int) l)] M = some (SV.dat (plD 4 4), M) := by
  have z : M.take M.length = M := List.take_length
  have : F_places_of [.dat (shD p ((4 : Nat) : Int) ((4 : Nat) : Int) l)] M = some (SV.dat (plD 4 4), M.take M.length) := by kernel_rfl
  rw [this, z]
theorem places_15 (p l : Int) (M : Mem) : F_places_of [.dat (shD p ((1 : Nat) : Int) ((5 : Nat) : Int) l)] M = some (SV.dat (plD 1 5), M) := by
  have z : M.take M.length = M := List.take_length
  have : F_places_of [.dat (shD p ((1 : Nat) : Int) ((5 : Nat) : Int) l)] M = some (SV.dat (plD 1 5), M.take M.length) := by kernel_rfl
  rw [this, z]
theorem places_25 (p l : Int) (M : Mem) : F_places_of [.dat (shD p ((2 : Nat) : Int) ((5 : Nat) : Int) l)] M = some (SV.dat (plD 2 5), M) := by
  have z : M.take M.length = M := List.take_length
  have : F_places_of [.dat (shD p ((2 : Nat) : Int) ((5 : Nat) : Int) l)] M = some (SV.dat (plD 2 5), M.take M.length) := by kernel_rfl
  rw [this, z]
theorem places_35 (p l : Int) (M : Mem) : F_places_of [.dat (shD p ((3 : Nat) : Int) ((5 : Nat) : Int) l)] M = some (SV.dat (plD 3 5), M) := by
  have z : M.take M.length = M := List.take_length
  have : F_places_of [.dat (shD p ((3 : Nat) : Int) ((5 : Nat) : Int) l)] M = some (SV.dat (plD 3 5), M.take M.length) := by kernel_rfl
  rw [this, z]
theorem places_45 (p l : Int) (M : Mem) : F_places_of [.dat (shD p ((4 : Nat) : Int) ((5 : Nat) : Int) l)] M = some (SV.dat (plD 4 5), M) := by
  have z : M.take M.length = M := List.take_length
  have : F_places_of [.dat (shD p ((4 : Nat) : Int) ((5 : Nat) : Int) l)] M = some (SV.dat (plD 4 5), M.take M.length) := by kernel_rfl
  rw [this, z]
theorem places_55 (p l : Int) (M : Mem) : F_places_of [.dat (shD p ((5 : Nat) : Int) ((5 : Nat) : Int) l)] M = some (SV.dat (plD 5 5), M) := by
  have z : M.take M.length = M := List.take_length
  have : F_places_of [.dat (shD p ((5 : Nat) : Int) ((5 : Nat) : Int) l)] M = some (SV.dat (plD 5 5), M.take M.length) := by kernel_rfl
  rw [this, z]
theorem places_ok {p l : Int} {M : Mem} {k d : Nat} (h1 : 1 ≤ d) (h2 : d ≤ 5) (h3 : 1 ≤ k) (h4 : k ≤ d) : F_places_of [.dat (shD p k d l)] M = some (.dat (plD k d), M) := by
  obtain rfl | rfl | rfl | rfl | rfl : d = 1 ∨ d = 2 ∨ d = 3 ∨ d = 4 ∨ d = 5 := by omega
  · obtain rfl : k = 1 := by omega
    exact places_11 p l M
  · obtain rfl | rfl : k = 1 ∨ k = 2 := by omega
    · exact places_12 p l M
    · exact places_22 p l M
  · obtain rfl | rfl | rfl : k = 1 ∨ k = 2 ∨ k = 3 := by omega
    · exact places_13 p l M
    · exact places_23 p l M
    · exact places_33 p l M
  · obtain rfl | rfl | rfl | rfl : k = 1 ∨ k = 2 ∨ k = 3 ∨ k = 4 := by omega
    · exact places_14 p l M
    · exact places_24 p l M
    · exact places_34 p l M
    · exact places_44 p l M
  · obtain rfl | rfl | rfl | rfl | rfl : k = 1 ∨ k = 2 ∨ k = 3 ∨ k = 4 ∨ k = 5 := by omega
    · exact places_15 p l M
    · exact places_25 p l M
    · exact places_35 p l M
    · exact places_45 p l M
    · exact places_55 p l M

theorem lcL2_flat {g g1 : SG} {it1 : SI} {el : SE} {vs1 : List Nat} {ρ : Rho} {M : Mem} {f : PyData → List PyData} : ∀ ds : List PyData, (∀ d ∈ ds, ∃ ρ1 ds1, g (.dat d) ρ M = some (ρ1, M) ∧ it1 ρ1 M = some (ds1, M) ∧ ds1.length ≤ 1000 ∧ lcL g1 bYes el (wipeR ρ1 vs1) ds1 M = some (f d, M)) → lcL2 g bYes it1 g1 bYes el vs1 ρ ds M = some (ds.flatMap f, M)
  | [], _ => rfl
  | d :: ds, h => by
    obtain ⟨ρ1, ds1, e1, e2, e3, e4⟩ := h d List.mem_cons_self
    have ih := lcL2_flat ds (fun x hx => h x (List.mem_cons_of_mem _ hx))
    simp only [lcL2, e1, Option.bind_some, bYes, if_true, e2, e3, e4, ih, List.flatMap_cons]
theorem eLc2_eq {it it1 : SI} {g g1 : SG} {tt tt1 : SB} {el : SE} {vs vs1 : List Nat} {ds out : List PyData} {ρ : Rho} {M M1 M2 : Mem} (h1 : it ρ M = some (ds, M1)) (h2 : ds.length ≤ 1000) (h3 : lcL2 g tt it1 g1 tt1 el vs1 (wipeR ρ vs) ds M1 = some (out, M2)) : eLc2 it g tt it1 g1 tt1 el vs vs1 ρ M = some (.dat (.list out), M2) := by
  simp only [eLc2, h1, Option.bind_some, h2, if_true, h3]

def cmv (p : Nat) (a b : List Int) : Int := ((a.zip b).map fun q => q.1 * q.2).sum % (p : Int)

/-! ### what houses keep as sums: the program's -/
theorem lc2_all {α β : Type} {g g1 : SG} {it it1 : SI} {el : SE} {vs vs1 : List Nat} {ρ : Rho} {M : Mem} {toD : α → PyData} {toE : β → PyData} {sub : α → List β} {f : α → β → PyData} (xs : List α) (hx : xs.length ≤ 1000) (hi : it ρ M = some (xs.map toD, M)) (h : ∀ x ∈ xs, ∃ ρ1, g (.dat (toD x)) (wipeR ρ vs) M = some (ρ1, M) ∧ it1 ρ1 M = some ((sub x).map toE, M) ∧ (sub x).length ≤ 1000 ∧ ∀ y ∈ sub x, ∃ ρ2, g1 (.dat (toE y)) (wipeR ρ1 vs1) M = some (ρ2, M) ∧ el ρ2 M = some (.dat (f x y), M)) :
    eLc2 it g bYes it1 g1 bYes el vs vs1 ρ M = some (.dat (.list (xs.flatMap fun x => (sub x).map (f x))), M) := by
  have key : ∀ xs : List α, (∀ x ∈ xs, ∃ ρ1, g (.dat (toD x)) (wipeR ρ vs) M = some (ρ1, M) ∧ it1 ρ1 M = some ((sub x).map toE, M) ∧ (sub x).length ≤ 1000 ∧ ∀ y ∈ sub x, ∃ ρ2, g1 (.dat (toE y)) (wipeR ρ1 vs1) M = some (ρ2, M) ∧ el ρ2 M = some (.dat (f x y), M)) → lcL2 g bYes it1 g1 bYes el vs1 (wipeR ρ vs) (xs.map toD) M = some (xs.flatMap fun x => (sub x).map (f x), M) := by
    intro xs
    induction xs with
    | nil => intro _; rfl
    | cons x xs ih =>
      intro h
      obtain ⟨ρ1, e1, e2, e3, e4⟩ := h x List.mem_cons_self
      have ih := ih fun y hy => h y (List.mem_cons_of_mem _ hy)
      have lc := lc_all (g := g1) (el := el) (ρ := wipeR ρ1 vs1) (M := M) (toD := toE) (f := f x) (sub x) e4
      have hl : ((sub x).map toE).length ≤ 1000 := by rw [List.length_map]; exact e3
      rw [List.map_cons]
      simp only [lcL2, e1, Option.bind_some, bYes, if_true, e2, hl, lc, ih, List.flatMap_cons]
  exact eLc2_eq hi (by rw [List.length_map]; exact hx) (key xs h)
section
variable {p : Nat} {l : Int} {k d : Nat} {M : Mem}
theorem times_ok {x : Int} {c : Nat} (hc : c < d) {q : Nat × Nat} (hq : q.1 ≤ q.2 ∧ q.2 < d) : F_times_kept [.dat (.tuple ((List.range d).map fun r => PyData.int (pw p x r))), ze (c : Int), .dat (plcD q)] M = some (ze (tk p x c q), M) := by
  have s1 : B_times_kept_1 [some (.dat (.tuple ((List.range d).map fun r => PyData.int (pw p x r)))), some (ze (c : Int)), some (.dat (plcD q)), none, none] M = some (.nx [some (.dat (.tuple ((List.range d).map fun r => PyData.int (pw p x r)))), some (ze (c : Int)), some (.dat (plcD q)), some (ze (q.1 : Int)), some (ze (q.2 : Int))] M) := rfl
  have t1 : bVal (eOp (lift2 dEq) (eVar 1) (eVar 4)) [some (.dat (.tuple ((List.range d).map fun r => PyData.int (pw p x r)))), some (ze (c : Int)), some (.dat (plcD q)), some (ze (q.1 : Int)), some (ze (q.2 : Int))] M = some ((c : Int) == (q.2 : Int), M) := bVal_eq (eOp_eq (M1 := M) (M2 := M) (x := ze (c : Int)) (y := ze (q.2 : Int)) rfl rfl l_eq)
  have t2 : bVal (eOp (lift2 dEq) (eVar 1) (eVar 3)) [some (.dat (.tuple ((List.range d).map fun r => PyData.int (pw p x r)))), some (ze (c : Int)), some (.dat (plcD q)), some (ze (q.1 : Int)), some (ze (q.2 : Int))] M = some ((c : Int) == (q.1 : Int), M) := bVal_eq (eOp_eq (M1 := M) (M2 := M) (x := ze (c : Int)) (y := ze (q.1 : Int)) rfl rfl l_eq)
  refine mkF_rtL (M1 := M) rfl (sSeq_nx s1 ?_)
  unfold tk
  by_cases e1 : c = q.2
  · rw [if_pos e1]
    rw [show ((c : Int) == (q.2 : Int)) = true from beq_iff_eq.mpr (by omega)] at t1
    exact sSeq_rt (sIf_t t1 (sRet_eq (eOp_eq (M1 := M) (M2 := M) (x := .dat (.tuple ((List.range d).map fun r => PyData.int (pw p x r)))) (y := ze (q.1 : Int)) rfl rfl (tup_range _ (by omega)))))
  · rw [if_neg e1]
    rw [show ((c : Int) == (q.2 : Int)) = false from beq_eq_false_iff_ne.mpr (by omega)] at t1
    refine sSeq_nx (sIf_f t1 rfl) (sRet_eq ?_)
    by_cases e2 : c = q.1
    · rw [if_pos e2]
      rw [show ((c : Int) == (q.1 : Int)) = true from beq_iff_eq.mpr (by omega)] at t2
      exact eIf_t t2 (eOp_eq (M1 := M) (M2 := M) (x := .dat (.tuple ((List.range d).map fun r => PyData.int (pw p x r)))) (y := ze (q.2 : Int)) rfl rfl (tup_range _ (by omega)))
    · rw [if_neg e2]
      rw [show ((c : Int) == (q.1 : Int)) = false from beq_eq_false_iff_ne.mpr (by omega)] at t2
      exact eIf_f t2 rfl
abbrev krow (p x : Int) (k d c : Nat) : List Int := (plc k d).map (tk p x c)
theorem kept_sums_ok (hP : PrP p) (h1 : 1 ≤ k) (hkd : k ≤ d) (hd : d ≤ 5) {x : Int} (hx : 0 ≤ x ∧ x < (p : Int)) : F_kept_sums [.dat (shD p k d l), ze x] M = some (.dat (.tuple ((List.range d).map fun c => rD (krow p x k d c))), M) := by
  have p1 := hP.1
  have p2 := hP.2.1
  have ep := powers_okM (p := (p : Int)) (x := x) (n := d) (M := M) (by omega) (by omega) (by omega)
  rw [pwl_ints] at ep
  have pl := places_ok (p := (p : Int)) (l := l) (M := M) (k := k) (d := d) (by omega) hd h1 hkd
  have small := plc_small (k := k) (d := d) (by omega) (by omega)
  generalize hPW : PyData.tuple ((List.range d).map fun r => PyData.int (pw p x r)) = PW at ep
  have lc := lc_range (el := eCB (one fTuple) (aCons (eLc (iDat (eVar 7)) (gNm 9) bYes (eCall F_times_kept (aCons (eVar 6) (aCons (eVar 8) (aCons (eVar 9) aNil)))) [9]) aNil)) (it := iR1 (aCons (eVar 4) aNil)) (ρ := [some (.dat (shD p k d l)), some (ze x), some (ze p), some (ze k), some (ze d), some (ze l), some (.dat PW), some (.dat (plD k d)), none, none]) (ρ0 := [some (.dat (shD p k d l)), some (ze x), some (ze p), some (ze k), some (ze d), some (ze l), some (.dat PW), some (.dat (plD k d)), none, none]) (M := M) (n := d) (j := 8) (vs := [8]) (f := fun c => rD (krow p x k d c)) (iR1_eq (M1 := M) (j := (d : Int)) rfl (by omega) (by omega)) rfl (by omega) (by
    intro c hc
    have li := lc_all (g := gNm 9) (el := eCall F_times_kept (aCons (eVar 6) (aCons (eVar 8) (aCons (eVar 9) aNil)))) (ρ := [some (.dat (shD p k d l)), some (ze x), some (ze p), some (ze k), some (ze d), some (ze l), some (.dat PW), some (.dat (plD k d)), some (ze (c : Int)), none]) (M := M) (toD := plcD) (f := fun q => PyData.int (tk p x c q)) (plc k d) (fun q hq => ⟨_, rfl, eCall_eq (M1 := M) (xs := [.dat PW, ze (c : Int), .dat (plcD q)]) rfl (by rw [← hPW]; exact times_ok hc (plc_norm q hq))⟩)
    refine eCB_eq (M1 := M) (aCons_eq (M1 := M) (eLc_eq (M1 := M) (vs := [9]) (iDat_e (M1 := M) (d := plD k d) rfl rfl) (by rw [List.length_map]; omega) li) rfl) ?_
    show some (SV.dat (.tuple _)) = some (SV.dat (.tuple _))
    rw [List.map_map]; rfl)
  refine mkF_rtL (M1 := M) rfl ?_
  refine sSeq_nx (M1 := M) (ρ1 := [some (.dat (shD p k d l)), some (ze x), some (ze p), some (ze k), some (ze d), some (ze l), none, none, none, none]) rfl ?_
  refine sSeq_nx (M1 := M) (ρ1 := [some (.dat (shD p k d l)), some (ze x), some (ze p), some (ze k), some (ze d), some (ze l), some (.dat PW), none, none, none]) (sAsg_eq (M1 := M) (eCall_eq (M1 := M) (xs := [ze p, ze (d : Int), ze x]) rfl ep) rfl) ?_
  refine sSeq_nx (M1 := M) (ρ1 := [some (.dat (shD p k d l)), some (ze x), some (ze p), some (ze k), some (ze d), some (ze l), some (.dat PW), some (.dat (plD k d)), none, none]) (sAsg_eq (M1 := M) (eCall_eq (M1 := M) (xs := [.dat (shD p k d l)]) rfl pl) rfl) ?_
  exact sRet_eq (eCB_eq (M1 := M) (aCons_eq (M1 := M) lc rfl) rfl)
theorem low_dice : ∀ d : Nat, d ≤ 5 → ∀ l : Nat, l ≤ d → (l : Int) * d - l * ((l : Int) - 1) / 2 = ((plc l d).length : Int) := by decide
theorem cmv_dotL (p : Nat) : ∀ a b : List Int, cmv p a b = dotL a b % (p : Int) := by
  intro a b
  unfold cmv
  congr 1
  induction a generalizing b with
  | nil => cases b <;> rfl
  | cons x a ih =>
    cases b with
    | nil => rfl
    | cons y b => rw [List.zip_cons_cons, List.map_cons, List.sum_cons, ih, dotL]
theorem keqs_zip {p : Int} : ∀ (xs : List Int) (rows : List (List Int)), xs.length = rows.length → (∀ r ∈ rows, r.length = d) → keqs p k d (xs.zip rows) = (krows p k d xs).zip rows.flatten
  | [], [], _, _ => rfl
  | x :: xs, r :: rows, hl, hr => by
    have ih := keqs_zip (p := p) xs rows (by simpa using hl) fun y hy => hr y (List.mem_cons_of_mem _ hy)
    have rl := hr r List.mem_cons_self
    have e : krows p k d (x :: xs) = ((List.range d).map fun c => (plc k d).map (tk p x c)) ++ krows p k d xs := rfl
    have e2 : keqs p k d ((x :: xs).zip (r :: rows)) = ((List.range d).map fun c => ((plc k d).map (tk p x c), r.getD c 0)) ++ keqs p k d (xs.zip rows) := rfl
    rw [e, e2, ih, List.flatten_cons, List.zip_append (by rw [List.length_map, List.length_range, rl])]
    congr 1
    have := getD_map rl
    conv => rhs; rw [← this]
    rw [List.zip_map']
  | [], _ :: _, h, _ => by simp at h
  | _ :: _, [], h, _ => by simp at h
theorem krows_len {p : Int} : ∀ xs : List Int, (krows p k d xs).length = xs.length * d
  | [] => by simp [krows]
  | x :: xs => by
    have e : krows p k d (x :: xs) = ((List.range d).map fun c => (plc k d).map (tk p x c)) ++ krows p k d xs := rfl
    rw [e, List.length_append, krows_len xs, List.length_map, List.length_range, List.length_cons, Nat.succ_mul]; omega
theorem flat_lenR : ∀ rows : List (List Int), (∀ r ∈ rows, r.length = d) → rows.flatten.length = rows.length * d
  | [], _ => by simp
  | r :: rows, h => by
    rw [List.flatten_cons, List.length_append, flat_lenR rows fun y hy => h y (List.mem_cons_of_mem _ hy), h r List.mem_cons_self, List.length_cons, Nat.succ_mul]; omega
theorem zip_swapD : ∀ (a : List Int) (b : List (List Int)), zipD (a.map PyData.int) (b.map rD) = (b.zip a).map fun e => PyData.tuple [.int e.2, rD e.1]
  | [], [] => rfl
  | [], _ :: _ => rfl
  | _ :: _, [] => rfl
  | x :: a, y :: b => by
    have ih := zip_swapD a b
    unfold zipD at ih ⊢
    rw [List.map_cons, List.map_cons, List.zip_cons_cons, List.map_cons, ih, List.zip_cons_cons, List.map_cons]
/-- dice that answer -/
def DiceAns (p l k d : Nat) (xs : List Int) (rows : List (List Int)) (s y : List Int) : Prop := y.length = (plc l d).length ∧ (∀ z ∈ y, 0 ≤ z ∧ z < (p : Int)) ∧ ∀ q ∈ xs.zip rows, keptL p d (tabN (plc k d) (y ++ s)) q.1 = q.2
end

/-! ### dice: what the laws share -/
theorem swReprB {d : PyData} {k w : Nat} {M : Mem} (h : Sw d k w) (h1 : k ≤ 64) (h2 : Nat.ble w 8000000 = true) : lift1 dRepr M (.dat d) = some (.dat (.str d.shown)) := by
  refine l_reprB ?_
  rw [h.sh, h.nd, decide_eq_true (Nat.le_trans h.dp h1), decide_eq_true (Nat.le_trans h.wl (ble_le h2))]
  rfl
theorem filt_none {α : Type} (xs : List α) : xs.filter (fun _ => false) = [] := by simp
theorem filt_dice {l k d : Nat} (h : l ≤ k) : (plc k d).filter (fun q => decide ((q.1 : Int) < (l : Int))) = plc l d := by
  rw [plc_split d h, List.filter_append, List.filter_eq_self.mpr fun q hq => decide_eq_true (by have := (mem_plc.mp hq).1; omega), List.filter_eq_nil_iff.mpr fun q hq => ?_, List.append_nil]
  unfold plm at hq
  obtain ⟨i, hi, hq⟩ := List.mem_flatMap.mp hq
  obtain ⟨j, _, rfl⟩ := List.mem_map.mp hq
  simp; omega
theorem rows_b {p : Nat} (hp : 1 < p) {d : Nat} {T : Nat → Nat → Int} {xs : List Int} : ∀ r ∈ xs.map fun x => keptL (p : Int) d T x, r.length = d ∧ ∀ z ∈ r, 0 ≤ z ∧ z < (p : Int) := fun r hr => by
  obtain ⟨x, _, rfl⟩ := List.mem_map.mp hr
  exact ⟨kept_len, kept_b (by omega)⟩
theorem zip_map_self {α β : Type} (f : α → β) : ∀ xs : List α, xs.zip (xs.map f) = xs.map fun x => (x, f x)
  | [] => rfl
  | x :: xs => by rw [List.map_cons, List.zip_cons_cons, zip_map_self f xs, List.map_cons]
theorem rise_un {p : Nat} {xs : List Int} (hr : xs.Pairwise (· < ·)) (hb : ∀ x ∈ xs, 0 ≤ x ∧ x < (p : Int)) : xs.Pairwise fun x y => ¬ (p : Int) ∣ x - y := by
  refine hr.imp_of_mem fun {a b} ha hb' hab => apart (hb a ha) (hb b hb') (by omega)
theorem prs_zip {p d : Nat} {xs : List Int} {rows : List (List Int)} (hl : xs.length = rows.length) (h20 : xs.length ≤ 20) (hb : ∀ x ∈ xs, 0 ≤ x ∧ x < (p : Int)) (rb : ∀ r ∈ rows, r.length = d ∧ ∀ z ∈ r, 0 ≤ z ∧ z < (p : Int)) (un : xs.Pairwise fun x y => ¬ (p : Int) ∣ x - y) : Prs p d (xs.zip rows) := by
  have e : (xs.zip rows).map Prod.fst = xs := List.map_fst_zip (by omega)
  refine ⟨by rw [List.length_zip]; omega, fun q hq => hb _ (List.of_mem_zip hq).1, fun q hq => (rb _ (List.of_mem_zip hq).2).1, fun q hq => (rb _ (List.of_mem_zip hq).2).2, ?_⟩
  rw [← e] at un
  exact (List.pairwise_map.mp un)
/-- rows that are kept of a table are told alike -/
theorem kept_alike {p : Nat} {d : Nat} {T : Nat → Nat → Int} (sT : ∀ r c, T r c = T c r) {xs : List Int} : Alike p (xs.zip (xs.map fun x => keptL (p : Int) d T x)) := by
  rw [zip_map_self]
  intro q hq r hr
  obtain ⟨a, _, rfl⟩ := List.mem_map.mp hq
  obtain ⟨b, _, rfl⟩ := List.mem_map.mp hr
  exact across sT a b
section
variable {p l k d : Nat} {M : Mem}
end

end Lk44

namespace Lk44
open PySem Sm L2
local macro_rules
  | `(tactic| walk_at "le") => `(tactic| ((try simp only [List.length_cons, List.length_nil, List.length_append, List.length_map]); omega))
local macro_rules
  | `(tactic| walk_at "smb") => `(tactic| first
    | with_reducible assumption
    | with_reducible rfl
    | assumption
    | rfl
    | (simp only [decide_eq_true_eq, decide_eq_false_iff_not, beq_iff_eq, Bool.not_eq_true', Bool.not_eq_false', beq_eq_false_iff_ne, Bool.and_eq_true, Bool.or_eq_true, Bool.not_eq_true, Bool.not_eq_false, ne_eq, Bool.and_eq_false_imp, Bool.or_eq_false_iff]; omega))
local macro_rules
  | `(tactic| walk_at "smf") => `(tactic| fail "no call")
local macro_rules
  | `(tactic| walk_at "sml") => `(tactic| first
    | with_reducible assumption
    | with_reducible exact l_add
    | with_reducible exact l_sub
    | with_reducible exact l_eq
    | with_reducible exact l_ne
    | with_reducible exact l_lt
    | with_reducible exact l_le
    | with_reducible exact l_gt
    | with_reducible exact l_ge
    | with_reducible exact l_eqSS
    | with_reducible exact l_neSS
    | with_reducible exact l_eqBS
    | with_reducible exact l_neBS
    | with_reducible exact l_eqB
    | with_reducible exact l_neB
    | with_reducible exact l_eqS
    | with_reducible exact l_neS
    | with_reducible exact l_neg
    | with_reducible exact isi_int _
    | with_reducible exact isi_bool _
    | with_reducible exact isi_tup _
    | with_reducible exact l_lenL
    | with_reducible exact l_lenT
    | with_reducible exact l_slL
    | with_reducible exact l_slT
    | ((with_reducible apply l_mod); (walk_at "smo"))
    | ((with_reducible apply l_mul); (walk_at "smo"))
    | ((with_reducible apply l_div); (walk_at "smo"); (walk_at "smo"))
    | ((with_reducible apply l_addT); rfl)
    | ((with_reducible apply l_addL); rfl)
    | ((with_reducible apply l_ixL); first | assumption | rfl)
    | ((with_reducible apply l_ixT); first | assumption | rfl)
    | ((with_reducible apply one_eq); (walk_at "sml"))
    | with_reducible assumption
    | rfl)
local macro_rules
  | `(tactic| walk_at "smo") => `(tactic| first | assumption | omega)
local macro_rules
  | `(tactic| walk_at "sm") => `(tactic| first
    | with_reducible assumption
    | with_reducible exact aNil_eq
    | with_reducible exact eC_eq
    | with_reducible exact sNext_eq
    | with_reducible exact eD0_eq
    | ((with_reducible apply eD1_eq); (walk_at "sm"))
    | ((with_reducible apply eC_e); rfl)
    | with_reducible exact oNone_eq
    | ((with_reducible apply eVar_eq); rfl)
    | ((with_reducible apply aCons_eq); (walk_at "sm"); (walk_at "sm"))
    | ((with_reducible apply eOp_eq); (walk_at "sm"); (walk_at "sm"); (walk_at "sml"))
    | ((with_reducible apply eUn_eq); (walk_at "sm"); (walk_at "sml"))
    | ((with_reducible apply eCB_eq); (walk_at "sm"); (walk_at "sml"))
    | ((with_reducible apply eCall_eq); (walk_at "sm"); (first | with_reducible assumption | walk_at "smf"))
    | ((with_reducible apply eTup_e); (walk_at "sm"); rfl; rfl)
    | ((with_reducible apply eLst_e); (walk_at "sm"); rfl; rfl)
    | ((with_reducible apply oSome_eq); (walk_at "sm"))
    | ((with_reducible apply eSl_eq); (walk_at "sm"); (walk_at "sm"); (walk_at "sm"); (walk_at "sml"))
    | ((with_reducible apply eNot_eq); (walk_at "sm"))
    | ((with_reducible apply bNot_eq); (walk_at "sm"))
    | ((with_reducible apply bVal_eq); (walk_at "sm"))
    | ((with_reducible apply bTru_b); (walk_at "sm"))
    | ((with_reducible apply eChain_e); (walk_at "sm"); (walk_at "sm"); (walk_at "sml"); (walk_at "sm"); (walk_at "sml"))
    | ((with_reducible apply eChain3_e); (walk_at "sm"); (walk_at "sm"); (walk_at "sml"); (walk_at "sm"); (walk_at "sml"); (walk_at "sm"); (walk_at "sml"))
    | ((with_reducible apply bOr_e); (walk_at "sm"); (first | ((apply ite_T); (walk_at "smb"); rfl) | ((apply ite_F); (walk_at "smb"); (walk_at "sm")) | ((apply or_gen); (walk_at "sm"))))
    | ((with_reducible apply bAnd_e); (walk_at "sm"); (first | ((apply ite_F); (walk_at "smb"); rfl) | ((apply ite_T); (walk_at "smb"); (walk_at "sm")) | ((apply and_gen); (walk_at "sm"))))
    | ((with_reducible apply eOr_e); (walk_at "sm"); (first | ((apply ite_T); (walk_at "smb"); rfl) | ((apply ite_F); (walk_at "smb"); (walk_at "sm")) | ((apply eor_gen); (walk_at "sm"))))
    | ((with_reducible apply eAnd_e); (walk_at "sm"); (first | ((apply ite_F); (walk_at "smb"); rfl) | ((apply ite_T); (walk_at "smb"); (walk_at "sm")) | ((apply eand_gen); (walk_at "sm"))))
    | ((with_reducible apply eIf_e); (walk_at "sm"); (first | ((apply ite_T); (walk_at "smb"); (walk_at "sm")) | ((apply ite_F); (walk_at "smb"); (walk_at "sm"))))
    | ((with_reducible apply sIf_e); (walk_at "sm"); (first | ((apply ite_T); (walk_at "smb"); (walk_at "sm")) | ((apply ite_F); (walk_at "smb"); (walk_at "sm"))))
    | ((with_reducible apply sSeq_e); (walk_at "sm"); (first | with_reducible exact seqK_rt | ((with_reducible apply seqK_nx); (walk_at "sm")) | ((with_reducible refine Eq.trans seqK_rt ?_); rfl)))
    | ((with_reducible apply sRet_eq); (walk_at "sm"))
    | ((with_reducible apply sAsg_eq); (walk_at "sm"); (walk_at "smg"))
    | with_reducible assumption
    | walk_at "smx")
local macro_rules
  | `(tactic| walk_at "smx") => `(tactic| fail "no step")
local macro_rules
  | `(tactic| walk_at "smg") => `(tactic| first
    | ((with_reducible apply gNm_e); ((dsimp only [List.set]) <;> rfl))
    | ((with_reducible apply gTp_e); rfl; ((dsimp only [setAll, List.set]) <;> rfl))
    | rfl)

/-! ### own layings -/
def accT (p : Nat) (y : Int) (n : Nat) (R : Nat → List Int) : Nat → List Int
  | 0 => List.replicate n 0
  | i + 1 => RR.plus p (pw p y i) (accT p y n R i) (R i)
theorem accT_len {p : Nat} {y : Int} {n : Nat} {R : Nat → List Int} : ∀ {i : Nat}, (∀ c, c < i → (R c).length = n) → (accT p y n R i).length = n
  | 0, _ => List.length_replicate
  | i + 1, h => by
    rw [accT]
    unfold RR.plus
    rw [List.length_map, List.length_zip, accT_len fun c hc => h c (by omega), h i (by omega), Nat.min_self]
theorem accT_bd {p : Nat} (hp : 0 < p) {y : Int} {n : Nat} {R : Nat → List Int} : ∀ {i : Nat}, (∀ c, c < i → (R c).length = n) → RR.Bd p n (accT p y n R i)
  | 0, _ => ⟨List.length_replicate, fun z hz => by rw [List.eq_of_mem_replicate hz]; omega⟩
  | i + 1, h => by
    rw [accT]
    exact RR.plus_bd hp (accT_len fun c hc => h c (by omega)) (h i (by omega))
abbrev keptD (p : Nat) (k d : Nat) (x : Int) : PyData := .tuple ((List.range d).map fun c => rD (krow p x k d c))
def toldL (p k d : Nat) (x y : Int) : List Int := accT p y (plc k d).length (fun c => krow p x k d c) d
def tellL (p k d : Nat) (y x : Int) : List Int := if x = y then List.replicate (plc k d).length 0 else toldL p k d x y
abbrev tellD (p k d : Nat) (xs : List Int) (y : Int) : PyData := .tuple (xs.map fun x => rD (tellL p k d y x))
abbrev layD (p k d : Nat) (xs : List Int) : PyData := .tuple [.int p, .int ((plc k d).length : Int), .tuple (xs.map (keptD p k d)), .tuple (xs.map (tellD p k d xs))]
section
variable {p : Nat} {l : Int} {k d : Nat} {M : Mem}
theorem krow_len {x : Int} {c : Nat} : (krow p x k d c).length = (plc k d).length := List.length_map _
theorem told_loop {v0 v1 v2 v3 : SV} {y : Int} {n : Nat} (hP : PrP p) (hn : n ≤ 900) (R : Nat → List Int) (hR : ∀ c, c < d → (R c).length = n) (hv : v0 = ze p) : ∃ o5 o6, loop (gTp [5, 6]) (sAsg (eCall F_with_multiple (aCons (eVar 0) (aCons (eVar 4) (aCons (eVar 5) (aCons (eVar 6) aNil))))) (gNm 4)) ((List.range d).map fun c => PyData.tuple [rD (R c), .int (pw p y c)]) [some v0, some v1, some v2, some v3, some (.dat (lD (List.replicate n 0))), none, none] M = some (.nx [some v0, some v1, some v2, some v3, some (.dat (lD (accT p y n R d))), o5, o6] M) := by
  have p1 := hP.1
  have p2 := hP.2.1
  subst hv
  obtain ⟨ρ', M', e, rfl, o5, o6, rfl⟩ := loop_inv (g := gTp [5, 6]) (s := sAsg (eCall F_with_multiple (aCons (eVar 0) (aCons (eVar 4) (aCons (eVar 5) (aCons (eVar 6) aNil))))) (gNm 4)) (fun i ρ M1 => M1 = M ∧ ∃ o5 o6, ρ = [some (ze p), some v1, some v2, some v3, some (.dat (lD (accT p y n R i))), o5, o6]) ((List.range d).map fun c => PyData.tuple [rD (R c), .int (pw p y c)]) 0 [some (ze p), some v1, some v2, some v3, some (.dat (lD (List.replicate n 0))), none, none] M ⟨rfl, none, none, rfl⟩ (by
    rintro i e ρ M1 he ⟨rfl, o5, o6, rfl⟩
    rw [Nat.zero_add]
    rw [List.getElem?_map] at he
    obtain ⟨i', hi', rfl⟩ := Option.map_eq_some_iff.mp he
    obtain ⟨q1, q2⟩ := List.getElem?_eq_some_iff.mp hi'
    rw [List.getElem_range] at q2
    rw [List.length_range] at q1
    subst q2
    have b := pw_in (p := (p : Int)) (x := y) (by omega) i
    have m := with_any (p := p) (f := pw p y i) (a := accT p y n R i) (b := R i) (M := M1) (d1 := lD (accT p y n R i)) (d2 := rD (R i)) rfl rfl (by omega) (by omega) (by rw [accT_len fun c hc => hR c (by omega)]; omega)
    exact ⟨_, _, [some (ze p), some v1, some v2, some v3, some (.dat (lD (accT p y n R (i + 1)))), some (.dat (rD (R i))), some (ze (pw p y i))], M1, rfl, sAsg_eq (eCall_eq (M1 := M1) (xs := [ze p, .dat (lD (accT p y n R i)), .dat (rD (R i)), ze (pw p y i)]) rfl m) rfl, rfl, _, _, rfl⟩)
  rw [List.length_map, List.length_range, Nat.zero_add] at e
  exact ⟨o5, o6, e⟩
theorem sums_told_ok (hP : PrP p) (hd : d ≤ 20) {y : Int} (hy : 0 ≤ y ∧ y < (p : Int)) {n : Nat} (hn : n ≤ 900) (R : Nat → List Int) (hR : ∀ c, c < d → (R c).length = n) : F_sums_told [ze p, ze (n : Int), .dat (.tuple ((List.range d).map fun c => rD (R c))), ze y] M = some (.dat (rD (accT p y n R d)), M) := by
  have p1 := hP.1
  have p2 := hP.2.1
  have r0 := rep0e (ρ := [some (ze p), some (ze (n : Int)), some (.dat (.tuple ((List.range d).map fun c => rD (R c)))), some (ze y), none, none, none]) (M := M) (d := n) (e := eVar 1) rfl (by omega)
  have hlen : (M ++ [some [ze 0]] ++ [none]).take M.length = M := by rw [List.append_assoc]; exact List.take_left' rfl
  generalize M ++ [some [ze 0]] ++ [none] = M2 at r0 hlen
  have ep := powers_okM (p := (p : Int)) (x := y) (n := d) (M := M2) (by omega) (by omega) (by omega)
  rw [pwl_ints] at ep
  obtain ⟨o5, o6, e⟩ := told_loop (M := M2) (v0 := ze p) (v1 := ze (n : Int)) (v2 := .dat (.tuple ((List.range d).map fun c => rD (R c)))) (v3 := ze y) (y := y) hP hn R hR rfl
  have ln : fLen M2 (.dat (.tuple ((List.range d).map fun c => rD (R c)))) = some (ze (d : Int)) := by
    show some (ze ((List.map _ (List.range d)).length : Int)) = _
    rw [List.length_map, List.length_range]
  have res := mkF_rt (n := 7) (s := B_sums_told) (args := [ze p, ze (n : Int), .dat (.tuple ((List.range d).map fun c => rD (R c))), ze y]) (M := M) (M1 := M2) (d := rD (accT p y n R d)) (by
    refine sSeq_nx (M1 := M2) (ρ1 := [some (ze p), some (ze (n : Int)), some (.dat (.tuple ((List.range d).map fun c => rD (R c)))), some (ze y), some (.dat (lD (List.replicate n 0))), none, none]) (sAsg_eq r0 rfl) ?_
    refine sSeq_nx (M1 := M2) (sFor_eq (M1 := M2) (ds := (List.range d).map fun c => PyData.tuple [rD (R c), .int (pw p y c)]) ?_ e) rfl
    rw [← zipD_range]
    exact iZp_e (M1 := M2) (d := .tuple ((List.range d).map fun c => rD (R c))) (e := .tuple ((List.range d).map fun r => PyData.int (pw p y r))) (aCons_eq (M1 := M2) rfl (aCons_eq (M1 := M2) (eCall_eq (M1 := M2) (xs := [ze p, ze (d : Int), ze y]) (aCons_eq (M1 := M2) rfl (aCons_eq (M1 := M2) (eCB_eq (M1 := M2) (xs := [.dat (.tuple ((List.range d).map fun c => rD (R c)))]) rfl ln) rfl)) ep) rfl)) rfl rfl)
  rw [hlen] at res
  exact res
theorem xmix_ok {f : Int} {a b : List Int} {d1 d2 : PyData} (h1 : seqD d1 = some (a.map PyData.int)) (h2 : seqD d2 = some (b.map PyData.int)) (hp : 0 < p) (hf : -(2 ^ 64) < f ∧ f < 2 ^ 64) (hl : a.length ≤ 1000) : F_xmix [ze (p : Int), .dat d1, ze f, .dat d2] M = some (.dat (rD (RR.plus p f a b)), M) := by
  refine mkF_rtL (M1 := M) rfl (sRet_eq ?_)
  have it : iZp (aCons (eVar 1) (aCons (eVar 3) aNil)) [some (ze (p : Int)), some (.dat d1), some (ze f), some (.dat d2), none, none] M = some ((a.zip b).map fun q => PyData.tuple [.int q.1, .int q.2], M) := by
    rw [iZp_e (M1 := M) (d := d1) (e := d2) rfl h1 h2]
    unfold zipD
    rw [List.zip_map, List.map_map]; rfl
  have lc := lc_all (g := gTp [4, 5]) (el := eOp (lift2 dMod) (eOp (lift2 dAdd) (eVar 4) (eOp (lift2 dMul) (eVar 2) (eVar 5))) (eVar 0)) (ρ := [some (ze (p : Int)), some (.dat d1), some (ze f), some (.dat d2), none, none]) (M := M) (toD := fun q : Int × Int => PyData.tuple [.int q.1, .int q.2]) (f := fun q => PyData.int ((q.1 + f * q.2) % (p : Int))) (a.zip b) (fun q _ => ⟨_, rfl, eOp_eq (M1 := M) (M2 := M) (eOp_eq (M1 := M) (M2 := M) (x := ze q.1) rfl (eOp_eq (M1 := M) (M2 := M) (x := ze f) (y := ze q.2) rfl rfl (l_mul (.inl hf))) l_add) (y := ze (p : Int)) rfl (l_mod (by omega))⟩)
  have e : ((a.zip b).map fun q => PyData.int ((q.1 + f * q.2) % (p : Int))) = (RR.plus p f a b).map PyData.int := by
    unfold RR.plus
    rw [List.map_map]; rfl
  rw [e] at lc
  exact eCB_eq (M1 := M) (xs := [.dat (lD (RR.plus p f a b))]) (aCons_eq (M1 := M) (eLc_eq (M1 := M) (vs := [4, 5]) it (by rw [List.length_map, List.length_zip]; omega) lc) rfl) rfl
theorem told_sum_ok (hP : PrP p) (h1 : 1 ≤ d) (hd : d ≤ 20) {y : Int} (hy : 0 ≤ y ∧ y < (p : Int)) {n : Nat} (hn : n ≤ 900) (R : Nat → List Int) (hR : ∀ c, c < d → (R c).length = n) : F_xtold_sum [ze p, .dat (.tuple ((List.range d).map fun c => rD (R c))), ze y] M = some (.dat (rD (accT p y n R d)), M) := by
  have p1 := hP.1
  have p2 := hP.2.1
  have ep := powers_okN (p := (p : Int)) (x := y) (n := d) (M := M) (by omega) (by omega) h1 (by omega)
  have ln : fLen M (.dat (.tuple ((List.range d).map fun c => rD (R c)))) = some (ze (d : Int)) := by
    show some (ze ((List.map _ (List.range d)).length : Int)) = _
    rw [List.length_map, List.length_range]
  have l0 : fLen M (.dat (rD (R 0))) = some (ze (n : Int)) := by
    show some (ze ((List.map _ (R 0)).length : Int)) = _
    rw [List.length_map, hR 0 (by omega)]
  obtain ⟨ρ', M', e, rfl, o5, o6, rfl⟩ := loop_inv (g := gTp [4, 5]) (s := sAsg (eCall F_xmix (aCons (eVar 0) (aCons (eVar 3) (aCons (eVar 4) (aCons (eVar 5) aNil))))) (gNm 3)) (fun i ρ M1 => M1 = M ∧ ∃ o4 o5, ρ = [some (ze p), some (.dat (.tuple ((List.range d).map fun c => rD (R c)))), some (ze y), some (.dat (rD (accT p y n R i))), o4, o5]) ((List.range d).map fun c => PyData.tuple [.int (pw p y c), rD (R c)]) 0 [some (ze p), some (.dat (.tuple ((List.range d).map fun c => rD (R c)))), some (ze y), some (.dat (rD (List.replicate n 0))), none, none] M ⟨rfl, none, none, rfl⟩ (by
    rintro i e ρ M1 he ⟨rfl, o5, o6, rfl⟩
    rw [Nat.zero_add]
    rw [List.getElem?_map] at he
    obtain ⟨i', hi', rfl⟩ := Option.map_eq_some_iff.mp he
    obtain ⟨q1, q2⟩ := List.getElem?_eq_some_iff.mp hi'
    rw [List.getElem_range] at q2
    rw [List.length_range] at q1
    subst q2
    have b := pw_in (p := (p : Int)) (x := y) (by omega) i
    have m := xmix_ok (p := p) (f := pw p y i) (a := accT p y n R i) (b := R i) (M := M1) (d1 := rD (accT p y n R i)) (d2 := rD (R i)) rfl rfl (by omega) (by omega) (by rw [accT_len fun c hc => hR c (by omega)]; omega)
    exact ⟨_, _, [some (ze p), some (.dat (.tuple ((List.range d).map fun c => rD (R c)))), some (ze y), some (.dat (rD (accT p y n R (i + 1)))), some (ze (pw p y i)), some (.dat (rD (R i)))], M1, rfl, sAsg_eq (eCall_eq (M1 := M1) (xs := [ze p, .dat (rD (accT p y n R i)), ze (pw p y i), .dat (rD (R i))]) rfl m) rfl, rfl, _, _, rfl⟩)
  rw [List.length_map, List.length_range, Nat.zero_add] at e
  refine mkF_rtL (M1 := M') rfl ?_
  refine sSeq_nx (M1 := M') (ρ1 := [some (ze p), some (.dat (.tuple ((List.range d).map fun c => rD (R c)))), some (ze y), some (.dat (rD (List.replicate n 0))), none, none]) (sAsg_eq (M1 := M') (eOp_eq (M1 := M') (M2 := M') (x := .dat (.tuple [.int 0])) (y := ze (n : Int)) rfl (eCB_eq (M1 := M') (xs := [.dat (rD (R 0))]) (aCons_eq (M1 := M') (eOp_eq (M1 := M') (M2 := M') (x := .dat (.tuple ((List.range d).map fun c => rD (R c)))) (y := ze ((0 : Nat) : Int)) rfl rfl (tup_range _ (by omega))) rfl) l0) (l_repR (by omega))) rfl) ?_
  refine sSeq_nx (M1 := M') (sFor_eq (M1 := M') (ds := (List.range d).map fun c => PyData.tuple [.int (pw p y c), rD (R c)]) ?_ e) rfl
  rw [← zipD_range]
  exact iZp_e (M1 := M') (d := .list ((List.range d).map fun r => PyData.int (pw p y r))) (e := .tuple ((List.range d).map fun c => rD (R c))) (aCons_eq (M1 := M') (eCall_eq (M1 := M') (xs := [ze p, ze (d : Int), ze y]) (aCons_eq (M1 := M') rfl (aCons_eq (M1 := M') (eCB_eq (M1 := M') (xs := [.dat (.tuple ((List.range d).map fun c => rD (R c)))]) rfl ln) rfl)) ep) (aCons_eq (M1 := M') rfl rfl)) rfl rfl
/-! the law's own sums -/
def unitL (n i : Nat) : List Int := (List.range n).map fun j => if j = i then 1 else 0
theorem dotL_unit {a : List Int} {n i : Nat} (ha : a.length = n) (hi : i < n) : dotL a (unitL n i) = a.getD i 0 := by
  have ul : (unitL n i).length = n := by unfold unitL; rw [List.length_map, List.length_range]
  have at_ : ∀ j, j < n → RR.fn (unitL n i) j = if j = i then 1 else 0 := fun j hj => by
    show (unitL n i).getD j 0 = _
    unfold unitL
    rw [List.getD_eq_getElem?_getD, List.getElem?_map, List.getElem?_range hj]; rfl
  rw [← dot_dotL n a (unitL n i) ha ul, RR.dot_one (c := i) n hi fun j hj hne => by rw [at_ j hj, if_neg hne, Int.mul_zero], at_ i hi, if_pos rfl, Int.mul_one]
theorem unit_keep (hp : 1 < p) {x : Int} {c i : Nat} (hc : c < d) (hi : i < (plc k d).length) : (keptL (p : Int) d (tabN (plc k d) (unitL (plc k d).length i)) x).getD c 0 = (krow p x k d c).getD i 0 := by
  have ul : (unitL (plc k d).length i).length = (plc k d).length := by unfold unitL; rw [List.length_map, List.length_range]
  have e : (keptL (p : Int) d (tabN (plc k d) (unitL (plc k d).length i)) x).getD c 0 = hor p x (colL d (tabN (plc k d) (unitL (plc k d).length i)) c) := by
    rw [List.getD_eq_getElem?_getD, List.getElem?_map, List.getElem?_range hc]; rfl
  have b : 0 ≤ (krow p x k d c).getD i 0 ∧ (krow p x k d c).getD i 0 < (p : Int) := by
    refine getD_bd (by omega) (fun z hz => ?_) i
    obtain ⟨q, _, rfl⟩ := List.mem_map.mp hz
    exact tk_b (by omega) c q
  rw [e, keep_dot hc ul, dotL_unit (List.length_map _) hi, Int.emod_eq_of_lt b.1 b.2]
theorem xsums_ok (hP : PrP p) (h1 : 1 ≤ k) (hkd : k ≤ d) (hd : d ≤ 5) {x : Int} (hx : 0 ≤ x ∧ x < (p : Int)) : F_xsums [.dat (shD p k d l), ze x] M = some (.dat (keptD p k d x), M) := by
  have p1 := hP.1
  have p2 := hP.2.1
  have small := plc_small (k := k) (d := d) (by omega) (by omega)
  generalize hn : (plc k d).length = n at small
  have sp := spots_ok (p := (p : Int)) (l := l) (k := k) (d := d) (M := M) (by omega) (by omega)
  have ln : fLen M (.dat (.list ((plc k d).map plcD))) = some (ze (n : Int)) := by
    show some (ze ((List.map plcD (plc k d)).length : Int)) = _
    rw [List.length_map, hn]
  have lc := lc_range (el := eCall F_xkeeps (aCons (eVar 0) (aCons (eLc (iR1 (aCons (eVar 2) aNil)) (gNm 5) bYes (eCB (one (lift1 dInt)) (aCons (eOp (lift2 dEq) (eVar 5) (eVar 4)) aNil)) [5]) (aCons (eVar 1) aNil)))) (it := iR1 (aCons (eVar 2) aNil)) (ρ := [some (.dat (shD p k d l)), some (ze x), some (ze (n : Int)), none, none, none, none, none]) (ρ0 := [some (.dat (shD p k d l)), some (ze x), some (ze (n : Int)), none, none, none, none, none]) (M := M) (n := n) (j := 4) (vs := [4]) (f := fun i => rD (keptL (p : Int) d (tabN (plc k d) (unitL n i)) x)) (iR1_eq (M1 := M) (j := (n : Int)) rfl (by omega) (by omega)) rfl (by omega) (by
    intro i hi
    have li := lc_range (el := eCB (one (lift1 dInt)) (aCons (eOp (lift2 dEq) (eVar 5) (eVar 4)) aNil)) (it := iR1 (aCons (eVar 2) aNil)) (ρ := [some (.dat (shD p k d l)), some (ze x), some (ze (n : Int)), none, some (ze (i : Int)), none, none, none]) (ρ0 := [some (.dat (shD p k d l)), some (ze x), some (ze (n : Int)), none, some (ze (i : Int)), none, none, none]) (M := M) (n := n) (j := 5) (vs := [5]) (f := fun j => .int (if j = i then 1 else 0)) (iR1_eq (M1 := M) (j := (n : Int)) rfl (by omega) (by omega)) rfl (by omega) (by
      intro j hj
      refine eCB_eq (M1 := M) (aCons_eq (M1 := M) (eOp_eq (M1 := M) (M2 := M) (x := ze (j : Int)) (y := ze (i : Int)) rfl rfl l_eq) rfl) ?_
      by_cases e : j = i
      · rw [if_pos e, show ((j : Int) == (i : Int)) = true from beq_iff_eq.mpr (by omega)]; rfl
      · rw [if_neg e, show ((j : Int) == (i : Int)) = false from beq_eq_false_iff_ne.mpr (by omega)]; rfl)
    have eu : ((List.range n).map fun j => PyData.int (if j = i then 1 else 0)) = (unitL n i).map PyData.int := by
      unfold unitL; rw [List.map_map]; rfl
    rw [eu] at li
    exact eCall_eq (M1 := M) (xs := [.dat (shD p k d l), .dat (lD (unitL n i)), ze x]) (aCons_eq (M1 := M) rfl (aCons_eq (M1 := M) li rfl)) (keeps_okN (p := (p : Int)) (l := l) (k := k) (d := d) (x := x) (M := M) (by omega) (by omega) (by omega) hkd (by omega) (nums := lD (unitL n i)) (v := unitL n i) rfl (by unfold unitL; rw [List.length_map, List.length_range, hn])))
  have lc3 := lc_range (el := eCB (one fTuple) (aCons (eLc (iDat (eVar 3)) (gNm 7) bYes (eOp fIx (eVar 7) (eVar 6)) [7]) aNil)) (it := iR1 (aCons (eOp fIx (eVar 0) (eC (.int 2))) aNil)) (ρ := [some (.dat (shD p k d l)), some (ze x), some (ze (n : Int)), some (.dat (.list ((List.range n).map fun i => rD (keptL (p : Int) d (tabN (plc k d) (unitL n i)) x)))), none, none, none, none]) (ρ0 := [some (.dat (shD p k d l)), some (ze x), some (ze (n : Int)), some (.dat (.list ((List.range n).map fun i => rD (keptL (p : Int) d (tabN (plc k d) (unitL n i)) x)))), none, none, none, none]) (M := M) (n := d) (j := 6) (vs := [6]) (f := fun c => rD (krow p x k d c)) (iR1_eq (M1 := M) (j := (d : Int)) rfl (by omega) (by omega)) rfl (by omega) (by
    intro c hc
    have li := lc_all (g := gNm 7) (el := eOp fIx (eVar 7) (eVar 6)) (ρ := [some (.dat (shD p k d l)), some (ze x), some (ze (n : Int)), some (.dat (.list ((List.range n).map fun i => rD (keptL (p : Int) d (tabN (plc k d) (unitL n i)) x)))), none, none, some (ze (c : Int)), none]) (M := M) (toD := fun i : Nat => rD (keptL (p : Int) d (tabN (plc k d) (unitL n i)) x)) (f := fun i : Nat => PyData.int ((krow p x k d c).getD i 0)) (List.range n) (fun i hi => by
      have hi := List.mem_range.mp hi
      refine ⟨_, rfl, eOp_eq (M1 := M) (M2 := M) (x := .dat (rD (keptL (p : Int) d (tabN (plc k d) (unitL n i)) x))) (y := ze (c : Int)) rfl rfl ?_⟩
      have uk := unit_keep (p := p) (k := k) (d := d) (x := x) (c := c) (i := i) (by omega) hc (by omega)
      rw [hn] at uk
      rw [← uk]
      exact row_at (by rw [kept_len]; exact hc) rfl)
    refine eCB_eq (M1 := M) (aCons_eq (M1 := M) (eLc_eq (M1 := M) (vs := [7]) (iDat_e (M1 := M) (d := .list ((List.range n).map fun i => rD (keptL (p : Int) d (tabN (plc k d) (unitL n i)) x))) rfl rfl) (by rw [List.length_map, List.length_range]; omega) li) rfl) ?_
    show some (SV.dat (.tuple _)) = some (SV.dat (.tuple _))
    have : (krow p x k d c).length = n := by rw [← hn]; exact List.length_map _
    conv => rhs; rw [← getD_map this]
    rw [List.map_map]; rfl)
  refine mkF_rtL (M1 := M) rfl ?_
  refine sSeq_nx (M1 := M) (ρ1 := [some (.dat (shD p k d l)), some (ze x), some (ze (n : Int)), none, none, none, none, none]) (sAsg_eq (M1 := M) (eCB_eq (M1 := M) (aCons_eq (M1 := M) (eCall_eq (M1 := M) (xs := [.dat (shD p k d l)]) rfl sp) rfl) ln) rfl) ?_
  refine sSeq_nx (M1 := M) (ρ1 := [some (.dat (shD p k d l)), some (ze x), some (ze (n : Int)), some (.dat (.list ((List.range n).map fun i => rD (keptL (p : Int) d (tabN (plc k d) (unitL n i)) x)))), none, none, none, none]) (sAsg_eq (M1 := M) lc rfl) ?_
  exact sRet_eq (eCB_eq (M1 := M) (aCons_eq (M1 := M) lc3 rfl) rfl)
end

end Lk44

namespace Lk44
open PySem Sm L2
local macro_rules
  | `(tactic| walk_at "le") => `(tactic| ((try simp only [List.length_cons, List.length_nil, List.length_append, List.length_map]); omega))
local macro_rules
  | `(tactic| walk_at "smb") => `(tactic| first
    | with_reducible assumption
    | with_reducible rfl
    | assumption
    | rfl
    | (simp only [decide_eq_true_eq, decide_eq_false_iff_not, beq_iff_eq, Bool.not_eq_true', Bool.not_eq_false', beq_eq_false_iff_ne, Bool.and_eq_true, Bool.or_eq_true, Bool.not_eq_true, Bool.not_eq_false, ne_eq, Bool.and_eq_false_imp, Bool.or_eq_false_iff]; omega))
local macro_rules
  | `(tactic| walk_at "smf") => `(tactic| fail "no call")
local macro_rules
  | `(tactic| walk_at "sml") => `(tactic| first
    | with_reducible assumption
    | with_reducible exact l_add
    | with_reducible exact l_sub
    | with_reducible exact l_eq
    | with_reducible exact l_ne
    | with_reducible exact l_lt
    | with_reducible exact l_le
    | with_reducible exact l_gt
    | with_reducible exact l_ge
    | with_reducible exact l_eqSS
    | with_reducible exact l_neSS
    | with_reducible exact l_eqBS
    | with_reducible exact l_neBS
    | with_reducible exact l_eqB
    | with_reducible exact l_neB
    | with_reducible exact l_eqS
    | with_reducible exact l_neS
    | with_reducible exact l_neg
    | with_reducible exact isi_int _
    | with_reducible exact isi_bool _
    | with_reducible exact isi_tup _
    | with_reducible exact l_lenL
    | with_reducible exact l_lenT
    | with_reducible exact l_slL
    | with_reducible exact l_slT
    | ((with_reducible apply l_mod); (walk_at "smo"))
    | ((with_reducible apply l_mul); (walk_at "smo"))
    | ((with_reducible apply l_div); (walk_at "smo"); (walk_at "smo"))
    | ((with_reducible apply l_addT); rfl)
    | ((with_reducible apply l_addL); rfl)
    | ((with_reducible apply l_ixL); first | assumption | rfl)
    | ((with_reducible apply l_ixT); first | assumption | rfl)
    | ((with_reducible apply one_eq); (walk_at "sml"))
    | with_reducible assumption
    | rfl)
local macro_rules
  | `(tactic| walk_at "smo") => `(tactic| first | assumption | omega)
local macro_rules
  | `(tactic| walk_at "sm") => `(tactic| first
    | with_reducible assumption
    | with_reducible exact aNil_eq
    | with_reducible exact eC_eq
    | with_reducible exact sNext_eq
    | with_reducible exact eD0_eq
    | ((with_reducible apply eD1_eq); (walk_at "sm"))
    | ((with_reducible apply eC_e); rfl)
    | with_reducible exact oNone_eq
    | ((with_reducible apply eVar_eq); rfl)
    | ((with_reducible apply aCons_eq); (walk_at "sm"); (walk_at "sm"))
    | ((with_reducible apply eOp_eq); (walk_at "sm"); (walk_at "sm"); (walk_at "sml"))
    | ((with_reducible apply eUn_eq); (walk_at "sm"); (walk_at "sml"))
    | ((with_reducible apply eCB_eq); (walk_at "sm"); (walk_at "sml"))
    | ((with_reducible apply eCall_eq); (walk_at "sm"); (first | with_reducible assumption | walk_at "smf"))
    | ((with_reducible apply eTup_e); (walk_at "sm"); rfl; rfl)
    | ((with_reducible apply eLst_e); (walk_at "sm"); rfl; rfl)
    | ((with_reducible apply oSome_eq); (walk_at "sm"))
    | ((with_reducible apply eSl_eq); (walk_at "sm"); (walk_at "sm"); (walk_at "sm"); (walk_at "sml"))
    | ((with_reducible apply eNot_eq); (walk_at "sm"))
    | ((with_reducible apply bNot_eq); (walk_at "sm"))
    | ((with_reducible apply bVal_eq); (walk_at "sm"))
    | ((with_reducible apply bTru_b); (walk_at "sm"))
    | ((with_reducible apply eChain_e); (walk_at "sm"); (walk_at "sm"); (walk_at "sml"); (walk_at "sm"); (walk_at "sml"))
    | ((with_reducible apply eChain3_e); (walk_at "sm"); (walk_at "sm"); (walk_at "sml"); (walk_at "sm"); (walk_at "sml"); (walk_at "sm"); (walk_at "sml"))
    | ((with_reducible apply bOr_e); (walk_at "sm"); (first | ((apply ite_T); (walk_at "smb"); rfl) | ((apply ite_F); (walk_at "smb"); (walk_at "sm")) | ((apply or_gen); (walk_at "sm"))))
    | ((with_reducible apply bAnd_e); (walk_at "sm"); (first | ((apply ite_F); (walk_at "smb"); rfl) | ((apply ite_T); (walk_at "smb"); (walk_at "sm")) | ((apply and_gen); (walk_at "sm"))))
    | ((with_reducible apply eOr_e); (walk_at "sm"); (first | ((apply ite_T); (walk_at "smb"); rfl) | ((apply ite_F); (walk_at "smb"); (walk_at "sm")) | ((apply eor_gen); (walk_at "sm"))))
    | ((with_reducible apply eAnd_e); (walk_at "sm"); (first | ((apply ite_F); (walk_at "smb"); rfl) | ((apply ite_T); (walk_at "smb"); (walk_at "sm")) | ((apply eand_gen); (walk_at "sm"))))
    | ((with_reducible apply eIf_e); (walk_at "sm"); (first | ((apply ite_T); (walk_at "smb"); (walk_at "sm")) | ((apply ite_F); (walk_at "smb"); (walk_at "sm"))))
    | ((with_reducible apply sIf_e); (walk_at "sm"); (first | ((apply ite_T); (walk_at "smb"); (walk_at "sm")) | ((apply ite_F); (walk_at "smb"); (walk_at "sm"))))
    | ((with_reducible apply sSeq_e); (walk_at "sm"); (first | with_reducible exact seqK_rt | ((with_reducible apply seqK_nx); (walk_at "sm")) | ((with_reducible refine Eq.trans seqK_rt ?_); rfl)))
    | ((with_reducible apply sRet_eq); (walk_at "sm"))
    | ((with_reducible apply sAsg_eq); (walk_at "sm"); (walk_at "smg"))
    | with_reducible assumption
    | walk_at "smx")
local macro_rules
  | `(tactic| walk_at "smx") => `(tactic| fail "no step")
local macro_rules
  | `(tactic| walk_at "smg") => `(tactic| first
    | ((with_reducible apply gNm_e); ((dsimp only [List.set]) <;> rfl))
    | ((with_reducible apply gTp_e); rfl; ((dsimp only [setAll, List.set]) <;> rfl))
    | rfl)

/-! ### own layings: the program's and the law's -/
section
variable {p : Nat} {l : Int} {k d : Nat} {M : Mem}
theorem bound_of_ok (hd : d ≤ 5) (hkd : k ≤ d) : F_bound_of [ze (k : Int), ze (d : Int)] M = some (ze ((plc k d).length : Int), M) := by
  refine mkF_rtL (M1 := M) rfl (sRet_eq (eCall_eq (M1 := M) (xs := [ze (k : Int), ze (d : Int)]) rfl ?_))
  rw [← low_dice d hd k hkd]
  exact mkF_rtL (M1 := M) rfl (sRet_eq (eOp_eq (M1 := M) (M2 := M) (x := ze ((k : Int) * d)) (y := ze ((k : Int) * ((k : Int) - 1) / 2)) (eOp_eq (M1 := M) (M2 := M) (x := ze (k : Int)) (y := ze (d : Int)) rfl rfl (l_mul (.inl (by omega)))) (eOp_eq (M1 := M) (M2 := M) (x := ze ((k : Int) * ((k : Int) - 1))) (y := ze 2) (eOp_eq (M1 := M) (M2 := M) (x := ze (k : Int)) (y := ze ((k : Int) - 1)) rfl (eOp_eq (M1 := M) (M2 := M) (x := ze (k : Int)) (y := ze 1) rfl rfl l_sub) (l_mul (.inl (by omega)))) rfl (l_div (by omega) (by omega))) l_sub))
theorem own_laying_ok (hP : PrP p) (h1 : 1 ≤ k) (hkd : k ≤ d) (hd : d ≤ 5) {xs : List Int} (xb : ∀ x ∈ xs, 0 ≤ x ∧ x < (p : Int)) (xl : xs.length ≤ 20) : F_own_laying [.dat (shD p k d l), .dat (rD xs)] M = some (.dat (layD p k d xs), M) := by
  have p1 := hP.1
  have p2 := hP.2.1
  have small := plc_small (k := k) (d := d) (by omega) (by omega)
  have bo := bound_of_ok (M := M) hd hkd
  generalize hn : (plc k d).length = n at small bo
  have lc1 := lc_all (g := gNm 9) (el := eCall F_kept_sums (aCons (eVar 0) (aCons (eVar 9) aNil))) (ρ := [some (.dat (shD p k d l)), some (.dat (rD xs)), some (ze p), some (ze k), some (ze d), some (ze l), some (ze (n : Int)), none, none, none, none, none, none]) (M := M) (toD := PyData.int) (f := keptD p k d) xs (fun x hx => ⟨_, rfl, eCall_eq (M1 := M) (xs := [.dat (shD p k d l), ze x]) rfl (kept_sums_ok (l := l) (M := M) hP h1 hkd hd (xb x hx))⟩)
  have lc2 := lc_all (g := gNm 10) (el := eLc (iZp (aCons (eVar 1) (aCons (eVar 7) aNil))) (gTp [9, 11]) bYes (eIf (bVal (eOp (lift2 dNe) (eVar 9) (eVar 10))) (eCall F_sums_told (aCons (eVar 2) (aCons (eVar 6) (aCons (eVar 11) (aCons (eVar 10) aNil))))) (eOp (lift2 dMul) (eTup (aCons (eC (.int 0)) aNil)) (eVar 6))) [9, 11]) (ρ := [some (.dat (shD p k d l)), some (.dat (rD xs)), some (ze p), some (ze k), some (ze d), some (ze l), some (ze (n : Int)), some (.dat (.list (xs.map (keptD p k d)))), none, none, none, none, none]) (M := M) (toD := PyData.int) (f := fun y => PyData.list (xs.map fun x => rD (tellL p k d y x))) xs (fun y hy => by
    have hy' := xb y hy
    have li := lc_all (g := gTp [9, 11]) (el := eIf (bVal (eOp (lift2 dNe) (eVar 9) (eVar 10))) (eCall F_sums_told (aCons (eVar 2) (aCons (eVar 6) (aCons (eVar 11) (aCons (eVar 10) aNil))))) (eOp (lift2 dMul) (eTup (aCons (eC (.int 0)) aNil)) (eVar 6))) (ρ := [some (.dat (shD p k d l)), some (.dat (rD xs)), some (ze p), some (ze k), some (ze d), some (ze l), some (ze (n : Int)), some (.dat (.list (xs.map (keptD p k d)))), none, none, some (ze y), none, none]) (M := M) (toD := fun x : Int => PyData.tuple [.int x, keptD p k d x]) (f := fun x => rD (tellL p k d y x)) xs (fun x hx => by
      refine ⟨[some (.dat (shD p k d l)), some (.dat (rD xs)), some (ze p), some (ze k), some (ze d), some (ze l), some (ze (n : Int)), some (.dat (.list (xs.map (keptD p k d)))), none, some (ze x), some (ze y), some (.dat (keptD p k d x)), none], rfl, ?_⟩
      have tst : bVal (eOp (lift2 dNe) (eVar 9) (eVar 10)) [some (.dat (shD p k d l)), some (.dat (rD xs)), some (ze p), some (ze k), some (ze d), some (ze l), some (ze (n : Int)), some (.dat (.list (xs.map (keptD p k d)))), none, some (ze x), some (ze y), some (.dat (keptD p k d x)), none] M = some (!(x == y), M) := bVal_eq (eOp_eq (M1 := M) (M2 := M) (x := ze x) (y := ze y) rfl rfl l_ne)
      unfold tellL
      by_cases e : x = y
      · rw [if_pos e, hn]
        rw [show (!(x == y)) = false from by rw [e]; simp] at tst
        exact eIf_f tst (eOp_eq (M1 := M) (M2 := M) (x := .dat (.tuple [.int 0])) (y := ze (n : Int)) rfl rfl (l_repR (by omega)))
      · rw [if_neg e]
        rw [show (!(x == y)) = true from by rw [Bool.not_eq_true']; exact beq_eq_false_iff_ne.mpr e] at tst
        have st := sums_told_ok (M := M) (p := p) (d := d) hP (by omega) hy' (n := n) (by omega) (fun c => krow p x k d c) (fun c _ => by rw [← hn]; exact List.length_map _)
        unfold toldL
        rw [hn]
        exact eIf_t tst (eCall_eq (M1 := M) (xs := [ze p, ze (n : Int), .dat (keptD p k d x), ze y]) rfl st))
    have it : iZp (aCons (eVar 1) (aCons (eVar 7) aNil)) [some (.dat (shD p k d l)), some (.dat (rD xs)), some (ze p), some (ze k), some (ze d), some (ze l), some (ze (n : Int)), some (.dat (.list (xs.map (keptD p k d)))), none, none, some (ze y), none, none] M = some (xs.map fun x => PyData.tuple [.int x, keptD p k d x], M) := by
      rw [iZp_e (M1 := M) (d := rD xs) (e := .list (xs.map (keptD p k d))) rfl rfl rfl]
      unfold zipD
      rw [List.zip_map', List.map_map]; rfl
    exact ⟨_, rfl, eLc_eq (M1 := M) (vs := [9, 11]) it (by rw [List.length_map]; omega) li⟩)
  have lc3 := lc_all (g := gNm 12) (el := eCB (one fTuple) (aCons (eVar 12) aNil)) (ρ := [some (.dat (shD p k d l)), some (.dat (rD xs)), some (ze p), some (ze k), some (ze d), some (ze l), some (ze (n : Int)), some (.dat (.list (xs.map (keptD p k d)))), some (.dat (.list (xs.map fun y => PyData.list (xs.map fun x => rD (tellL p k d y x))))), none, none, none, none]) (M := M) (toD := fun y : Int => PyData.list (xs.map fun x => rD (tellL p k d y x))) (f := tellD p k d xs) xs (fun y _ => ⟨_, rfl, eCB_eq (M1 := M) (xs := [.dat (.list (xs.map fun x => rD (tellL p k d y x)))]) rfl rfl⟩)
  refine mkF_rtL (M1 := M) rfl ?_
  refine sSeq_nx (M1 := M) (ρ1 := [some (.dat (shD p k d l)), some (.dat (rD xs)), some (ze p), some (ze k), some (ze d), some (ze l), none, none, none, none, none, none, none]) rfl ?_
  refine sSeq_nx (M1 := M) (ρ1 := [some (.dat (shD p k d l)), some (.dat (rD xs)), some (ze p), some (ze k), some (ze d), some (ze l), some (ze (n : Int)), none, none, none, none, none, none]) (sAsg_eq (M1 := M) (eCall_eq (M1 := M) (xs := [ze k, ze d]) rfl bo) rfl) ?_
  refine sSeq_nx (M1 := M) (ρ1 := [some (.dat (shD p k d l)), some (.dat (rD xs)), some (ze p), some (ze k), some (ze d), some (ze l), some (ze (n : Int)), some (.dat (.list (xs.map (keptD p k d)))), none, none, none, none, none]) (sAsg_eq (M1 := M) (eLc_eq (M1 := M) (vs := [9]) (ds := xs.map PyData.int) rfl (by rw [List.length_map]; omega) lc1) rfl) ?_
  refine sSeq_nx (M1 := M) (ρ1 := [some (.dat (shD p k d l)), some (.dat (rD xs)), some (ze p), some (ze k), some (ze d), some (ze l), some (ze (n : Int)), some (.dat (.list (xs.map (keptD p k d)))), some (.dat (.list (xs.map fun y => PyData.list (xs.map fun x => rD (tellL p k d y x))))), none, none, none, none]) (sAsg_eq (M1 := M) (eLc_eq (M1 := M) (vs := [10]) (ds := xs.map PyData.int) rfl (by rw [List.length_map]; omega) lc2) rfl) ?_
  show _ = some (Ctl.rt (.dat (.tuple [.int p, .int ((plc k d).length : Int), .tuple (xs.map (keptD p k d)), .tuple (xs.map (tellD p k d xs))])) M)
  rw [hn]
  refine sRet_eq (eTup_eq (xs := [ze p, ze (n : Int), .dat (.tuple (xs.map (keptD p k d))), .dat (.tuple (xs.map (tellD p k d xs)))]) ?_ rfl (show 4 ≤ 100000 by omega))
  refine aCons_eq (M1 := M) rfl (aCons_eq (M1 := M) rfl (aCons_eq (M1 := M) (eCB_eq (M1 := M) (xs := [.dat (.list (xs.map (keptD p k d)))]) rfl rfl) (aCons_eq (M1 := M) (eCB_eq (M1 := M) (xs := [.dat (.list (xs.map (tellD p k d xs)))]) (aCons_eq (M1 := M) (eLc_eq (M1 := M) (vs := [12]) (iDat_e (M1 := M) (d := .list (xs.map fun y => PyData.list (xs.map fun x => rD (tellL p k d y x)))) rfl rfl) (by rw [List.length_map]; omega) lc3) rfl) rfl) rfl)))
theorem zip_at {xs : List Int} (nd : xs.Nodup) {t : Int × Nat} (ht : t ∈ xs.zipIdx) {f : Nat} {x : Int} (hf : xs[f]? = some x) : t.2 = f ↔ t.1 = x := by
  obtain ⟨a, b⟩ := t
  have hb := List.mk_mem_zipIdx_iff_getElem?.mp ht
  dsimp only
  constructor
  · rintro rfl
    exact Option.some.inj (hb.symm.trans hf)
  · rintro rfl
    exact (List.getElem?_inj (List.getElem?_eq_some_iff.mp hb).1 nd).mp (hb.trans hf.symm)
theorem zip_fst {α : Type} (g : Int → α) (xs : List Int) : xs.zipIdx.map (fun t => g t.1) = xs.map g := by
  have : xs.zipIdx.map (fun t => g t.1) = (xs.zipIdx.map Prod.fst).map g := by rw [List.map_map]; rfl
  rw [this, List.zipIdx_map_fst]
theorem xown_ok (hP : PrP p) (h1 : 1 ≤ k) (hkd : k ≤ d) (hd : d ≤ 5) {xs : List Int} (xb : ∀ x ∈ xs, 0 ≤ x ∧ x < (p : Int)) (xl : xs.length ≤ 20) (nd : xs.Nodup) : F_xown [.dat (shD p k d l), .dat (rD xs)] M = some (.dat (layD p k d xs), M) := by
  have p1 := hP.1
  have p2 := hP.2.1
  have small := plc_small (k := k) (d := d) (by omega) (by omega)
  have sp := spots_ok (p := (p : Int)) (l := l) (k := k) (d := d) (M := M) (by omega) (by omega)
  have ln : fLen M (.dat (.list ((plc k d).map plcD))) = some (ze ((plc k d).length : Int)) := by
    show some (ze ((List.map plcD (plc k d)).length : Int)) = _
    rw [List.length_map]
  generalize hn : (plc k d).length = n at small ln
  have lc1 := lc_all (g := gNm 7) (el := eCall F_xsums (aCons (eVar 0) (aCons (eVar 7) aNil))) (ρ := [some (.dat (shD p k d l)), some (.dat (rD xs)), some (ze p), some (ze (n : Int)), none, none, none, none, none, none]) (M := M) (toD := PyData.int) (f := keptD p k d) xs (fun x hx => ⟨_, rfl, eCall_eq (M1 := M) (xs := [.dat (shD p k d l), ze x]) rfl (xsums_ok (l := l) (M := M) hP h1 hkd hd (xb x hx))⟩)
  generalize hKD : PyData.list (xs.map (keptD p k d)) = KD
  have itE : ∀ (MM : Mem) (o6 o7 : Option SV), iEnM (aCons (eVar 4) aNil) [some (.dat (shD p k d l)), some (.dat (rD xs)), some (ze p), some (ze (n : Int)), some (.dat KD), some (.cel M.length), o6, o7, none, none] MM = some (xs.zipIdx.map fun t => PyData.tuple [.int (t.2 : Int), keptD p k d t.1], MM) := fun MM o6 o7 => by
    rw [← enum_zip, ← hKD]; rfl
  have itX : iEnM (aCons (eVar 1) aNil) [some (.dat (shD p k d l)), some (.dat (rD xs)), some (ze p), some (ze (n : Int)), some (.dat KD), some (.cel M.length), none, none, none, none] (M ++ [some []]) = some (xs.zipIdx.map fun t => PyData.tuple [.int (t.2 : Int), .int t.1], M ++ [some []]) := by
    rw [← enum_zip (fun x : Int => PyData.int x)]; rfl
  obtain ⟨ρ', M', e, o6, o7, rfl, rfl⟩ := loop_inv (g := gTp [6, 7]) (s := sApp (eVar 5) (eCB (one fTuple) (aCons (eLc (iEnM (aCons (eVar 4) aNil)) (gTp [8, 9]) bYes (eOp fIx (eLst (aCons (eCall F_xtold_sum (aCons (eVar 2) (aCons (eVar 9) (aCons (eVar 7) aNil)))) (aCons (eOp (lift2 dMul) (eTup (aCons (eC (.int 0)) aNil)) (eVar 3)) aNil))) (eCB (one (lift1 dInt)) (aCons (eOp (lift2 dEq) (eVar 8) (eVar 6)) aNil))) [8, 9]) aNil))) (fun i ρ M1 => ∃ o6 o7, ρ = [some (.dat (shD p k d l)), some (.dat (rD xs)), some (ze p), some (ze (n : Int)), some (.dat KD), some (.cel M.length), o6, o7, none, none] ∧ M1 = M ++ [cd ((xs.take i).map (tellD p k d xs))]) (xs.zipIdx.map fun t => PyData.tuple [.int (t.2 : Int), .int t.1]) 0 [some (.dat (shD p k d l)), some (.dat (rD xs)), some (ze p), some (ze (n : Int)), some (.dat KD), some (.cel M.length), none, none, none, none] (M ++ [some []]) ⟨none, none, rfl, rfl⟩ (by
    rintro i e ρ M1 he ⟨o6, o7, rfl, rfl⟩
    rw [Nat.zero_add] at *
    rw [List.getElem?_map] at he
    obtain ⟨t, ht, rfl⟩ := Option.map_eq_some_iff.mp he
    rw [List.getElem?_zipIdx] at ht
    obtain ⟨x, hx, rfl⟩ := Option.map_eq_some_iff.mp ht
    rw [Nat.zero_add]
    have xb' := xb x (List.mem_of_getElem? hx)
    have hil := (List.getElem?_eq_some_iff.mp hx).1
    generalize hMM : M ++ [cd ((xs.take i).map (tellD p k d xs))] = MM
    have lc := lc_all (g := gTp [8, 9]) (el := eOp fIx (eLst (aCons (eCall F_xtold_sum (aCons (eVar 2) (aCons (eVar 9) (aCons (eVar 7) aNil)))) (aCons (eOp (lift2 dMul) (eTup (aCons (eC (.int 0)) aNil)) (eVar 3)) aNil))) (eCB (one (lift1 dInt)) (aCons (eOp (lift2 dEq) (eVar 8) (eVar 6)) aNil))) (ρ := [some (.dat (shD p k d l)), some (.dat (rD xs)), some (ze p), some (ze (n : Int)), some (.dat KD), some (.cel M.length), some (ze (i : Int)), some (ze x), none, none]) (M := MM) (toD := fun t : Int × Nat => PyData.tuple [.int (t.2 : Int), keptD p k d t.1]) (f := fun t => rD (tellL p k d x t.1)) xs.zipIdx (fun t ht => by
      have za := zip_at nd ht hx
      refine ⟨[some (.dat (shD p k d l)), some (.dat (rD xs)), some (ze p), some (ze (n : Int)), some (.dat KD), some (.cel M.length), some (ze (i : Int)), some (ze x), some (ze (t.2 : Int)), some (.dat (keptD p k d t.1))], rfl, ?_⟩
      have st := told_sum_ok (M := MM) (p := p) (d := d) hP (by omega) (by omega) xb' (n := n) (by omega) (fun c => krow p t.1 k d c) (fun c _ => by rw [← hn]; exact List.length_map _)
      have ls : eLst (aCons (eCall F_xtold_sum (aCons (eVar 2) (aCons (eVar 9) (aCons (eVar 7) aNil)))) (aCons (eOp (lift2 dMul) (eTup (aCons (eC (.int 0)) aNil)) (eVar 3)) aNil)) [some (.dat (shD p k d l)), some (.dat (rD xs)), some (ze p), some (ze (n : Int)), some (.dat KD), some (.cel M.length), some (ze (i : Int)), some (ze x), some (ze (t.2 : Int)), some (.dat (keptD p k d t.1))] MM = some (.dat (.list [rD (toldL p k d t.1 x), rD (List.replicate n 0)]), MM) := by
        unfold toldL
        rw [hn]
        exact eLst_eq (xs := [.dat (rD (accT p x n (fun c => krow p t.1 k d c) d)), .dat (rD (List.replicate n 0))]) (aCons_eq (M1 := MM) (eCall_eq (M1 := MM) (xs := [ze p, .dat (keptD p k d t.1), ze x]) rfl st) (aCons_eq (M1 := MM) (eOp_eq (M1 := MM) (M2 := MM) (x := .dat (.tuple [.int 0])) (y := ze (n : Int)) rfl rfl (l_repR (by omega))) rfl)) rfl (show 2 ≤ 100000 by omega)
      unfold tellL
      by_cases e : t.1 = x
      · rw [if_pos e, hn]
        have eq : lift2 dEq MM (ze (t.2 : Int)) (ze (i : Int)) = some (.dat (.bool true)) := by rw [l_eq, za.mpr e, beq_self_eq_true]
        exact eOp_eq (M1 := MM) (M2 := MM) (x := .dat (.list [rD (toldL p k d t.1 x), rD (List.replicate n 0)])) (y := ze 1) ls (eCB_eq (M1 := MM) (aCons_eq (M1 := MM) (eOp_eq (M1 := MM) (M2 := MM) (x := ze (t.2 : Int)) (y := ze (i : Int)) rfl rfl eq) rfl) rfl) (l_ixL rfl)
      · rw [if_neg e]
        have eq : lift2 dEq MM (ze (t.2 : Int)) (ze (i : Int)) = some (.dat (.bool false)) := by
          rw [l_eq, show ((t.2 : Int) == (i : Int)) = false from beq_eq_false_iff_ne.mpr fun z => e (za.mp (by omega))]
        exact eOp_eq (M1 := MM) (M2 := MM) (x := .dat (.list [rD (toldL p k d t.1 x), rD (List.replicate n 0)])) (y := ze 0) ls (eCB_eq (M1 := MM) (aCons_eq (M1 := MM) (eOp_eq (M1 := MM) (M2 := MM) (x := ze (t.2 : Int)) (y := ze (i : Int)) rfl rfl eq) rfl) rfl) (l_ixL rfl))
    rw [zip_fst (fun a => rD (tellL p k d x a))] at lc
    refine ⟨_, MM, [some (.dat (shD p k d l)), some (.dat (rD xs)), some (ze p), some (ze (n : Int)), some (.dat KD), some (.cel M.length), some (ze (i : Int)), some (ze x), none, none], M ++ [cd ((xs.take (i + 1)).map (tellD p k d xs))], rfl, ?_, _, _, rfl, rfl⟩
    have ap := app_at (k := 5) (ρ := [some (.dat (shD p k d l)), some (.dat (rD xs)), some (ze p), some (ze (n : Int)), some (.dat KD), some (.cel M.length), some (ze (i : Int)), some (ze x), none, none]) (M := M) (ds := (xs.take i).map (tellD p k d xs)) (el := eCB (one fTuple) (aCons (eLc (iEnM (aCons (eVar 4) aNil)) (gTp [8, 9]) bYes (eOp fIx (eLst (aCons (eCall F_xtold_sum (aCons (eVar 2) (aCons (eVar 9) (aCons (eVar 7) aNil)))) (aCons (eOp (lift2 dMul) (eTup (aCons (eC (.int 0)) aNil)) (eVar 3)) aNil))) (eCB (one (lift1 dInt)) (aCons (eOp (lift2 dEq) (eVar 8) (eVar 6)) aNil))) [8, 9]) aNil)) (d := tellD p k d xs x) rfl (by
      rw [hMM]
      exact eCB_eq (M1 := MM) (xs := [.dat (.list (xs.map fun a => rD (tellL p k d x a)))]) (aCons_eq (M1 := MM) (eLc_eq (M1 := MM) (vs := [8, 9]) (itE MM _ _) (by rw [List.length_map, List.length_zipIdx]; omega) lc) rfl) rfl) (by rw [List.length_map, List.length_take]; omega)
    rw [hMM] at ap
    have tk : xs.take (i + 1) = xs.take i ++ [x] := by
      rw [List.take_succ, hx]; rfl
    rw [tk, List.map_append]
    exact ap)
  rw [List.length_map, List.length_zipIdx, Nat.zero_add, List.take_length] at e
  have f := frz_at (k := 5) (M := M) (M0 := M ++ [some []]) (sFor_eq (M1 := M ++ [some []]) itX e) rfl
  have res := mkF_rt (n := 10) (s := B_xown) (args := [.dat (shD p k d l), .dat (rD xs)]) (M := M) (M1 := M ++ [none]) (d := layD p k d xs) (by
    refine sSeq_nx (M1 := M) (ρ1 := [some (.dat (shD p k d l)), some (.dat (rD xs)), some (ze p), some (ze (n : Int)), none, none, none, none, none, none]) (sAsg_eq (M1 := M) (eTup_eq (xs := [ze p, ze (n : Int)]) (aCons_eq (M1 := M) (eOp_eq (M1 := M) (M2 := M) (x := .dat (shD p k d l)) (y := ze 0) rfl rfl (l_ixT rfl)) (aCons_eq (M1 := M) (eCB_eq (M1 := M) (aCons_eq (M1 := M) (eCall_eq (M1 := M) (xs := [.dat (shD p k d l)]) rfl sp) rfl) ln) rfl)) rfl (show 2 ≤ 100000 by omega)) rfl) ?_
    refine sSeq_nx (M1 := M) (ρ1 := [some (.dat (shD p k d l)), some (.dat (rD xs)), some (ze p), some (ze (n : Int)), some (.dat KD), none, none, none, none, none]) (sAsg_eq (M1 := M) (by rw [← hKD]; exact eLc_eq (M1 := M) (vs := [7]) (ds := xs.map PyData.int) rfl (by rw [List.length_map]; omega) lc1) rfl) ?_
    refine sSeq_nx (M1 := M ++ [some []]) (ρ1 := [some (.dat (shD p k d l)), some (.dat (rD xs)), some (ze p), some (ze (n : Int)), some (.dat KD), some (.cel M.length), none, none, none, none]) rfl ?_
    refine sSeq_nx f ?_
    show _ = some (Ctl.rt (.dat (.tuple [.int p, .int ((plc k d).length : Int), .tuple (xs.map (keptD p k d)), .tuple (xs.map (tellD p k d xs))])) (M ++ [none]))
    rw [hn]
    refine sRet_eq (eTup_eq (xs := [ze p, ze (n : Int), .dat (.tuple (xs.map (keptD p k d))), .dat (.tuple (xs.map (tellD p k d xs)))]) ?_ rfl (show 4 ≤ 100000 by omega))
    refine aCons_eq (M1 := M ++ [none]) rfl (aCons_eq (M1 := M ++ [none]) rfl (aCons_eq (M1 := M ++ [none]) (eCB_eq (M1 := M ++ [none]) (xs := [.dat KD]) rfl (by rw [← hKD]; rfl)) (aCons_eq (M1 := M ++ [none]) (eCB_eq (M1 := M ++ [none]) (xs := [.dat (.list (xs.map (tellD p k d xs)))]) rfl rfl) rfl))))
  rw [List.take_left' rfl] at res
  exact res
end

end Lk44

namespace Lk44
open PySem Sm L2
local macro_rules
  | `(tactic| walk_at "le") => `(tactic| ((try simp only [List.length_cons, List.length_nil, List.length_append, List.length_map]); omega))
local macro_rules
  | `(tactic| walk_at "smb") => `(tactic| first
    | with_reducible assumption
    | with_reducible rfl
    | assumption
    | rfl
    | (simp only [decide_eq_true_eq, decide_eq_false_iff_not, beq_iff_eq, Bool.not_eq_true', Bool.not_eq_false', beq_eq_false_iff_ne, Bool.and_eq_true, Bool.or_eq_true, Bool.not_eq_true, Bool.not_eq_false, ne_eq, Bool.and_eq_false_imp, Bool.or_eq_false_iff]; omega))
local macro_rules
  | `(tactic| walk_at "smf") => `(tactic| fail "no call")
local macro_rules
  | `(tactic| walk_at "sml") => `(tactic| first
    | with_reducible assumption
    | with_reducible exact l_add
    | with_reducible exact l_sub
    | with_reducible exact l_eq
    | with_reducible exact l_ne
    | with_reducible exact l_lt
    | with_reducible exact l_le
    | with_reducible exact l_gt
    | with_reducible exact l_ge
    | with_reducible exact l_eqSS
    | with_reducible exact l_neSS
    | with_reducible exact l_eqBS
    | with_reducible exact l_neBS
    | with_reducible exact l_eqB
    | with_reducible exact l_neB
    | with_reducible exact l_eqS
    | with_reducible exact l_neS
    | with_reducible exact l_neg
    | with_reducible exact isi_int _
    | with_reducible exact isi_bool _
    | with_reducible exact isi_tup _
    | with_reducible exact l_lenL
    | with_reducible exact l_lenT
    | with_reducible exact l_slL
    | with_reducible exact l_slT
    | ((with_reducible apply l_mod); (walk_at "smo"))
    | ((with_reducible apply l_mul); (walk_at "smo"))
    | ((with_reducible apply l_div); (walk_at "smo"); (walk_at "smo"))
    | ((with_reducible apply l_addT); rfl)
    | ((with_reducible apply l_addL); rfl)
    | ((with_reducible apply l_ixL); first | assumption | rfl)
    | ((with_reducible apply l_ixT); first | assumption | rfl)
    | ((with_reducible apply one_eq); (walk_at "sml"))
    | with_reducible assumption
    | rfl)
local macro_rules
  | `(tactic| walk_at "smo") => `(tactic| first | assumption | omega)
local macro_rules
  | `(tactic| walk_at "sm") => `(tactic| first
    | with_reducible assumption
    | with_reducible exact aNil_eq
    | with_reducible exact eC_eq
    | with_reducible exact sNext_eq
    | with_reducible exact eD0_eq
    | ((with_reducible apply eD1_eq); (walk_at "sm"))
    | ((with_reducible apply eC_e); rfl)
    | with_reducible exact oNone_eq
    | ((with_reducible apply eVar_eq); rfl)
    | ((with_reducible apply aCons_eq); (walk_at "sm"); (walk_at "sm"))
    | ((with_reducible apply eOp_eq); (walk_at "sm"); (walk_at "sm"); (walk_at "sml"))
    | ((with_reducible apply eUn_eq); (walk_at "sm"); (walk_at "sml"))
    | ((with_reducible apply eCB_eq); (walk_at "sm"); (walk_at "sml"))
    | ((with_reducible apply eCall_eq); (walk_at "sm"); (first | with_reducible assumption | walk_at "smf"))
    | ((with_reducible apply eTup_e); (walk_at "sm"); rfl; rfl)
    | ((with_reducible apply eLst_e); (walk_at "sm"); rfl; rfl)
    | ((with_reducible apply oSome_eq); (walk_at "sm"))
    | ((with_reducible apply eSl_eq); (walk_at "sm"); (walk_at "sm"); (walk_at "sm"); (walk_at "sml"))
    | ((with_reducible apply eNot_eq); (walk_at "sm"))
    | ((with_reducible apply bNot_eq); (walk_at "sm"))
    | ((with_reducible apply bVal_eq); (walk_at "sm"))
    | ((with_reducible apply bTru_b); (walk_at "sm"))
    | ((with_reducible apply eChain_e); (walk_at "sm"); (walk_at "sm"); (walk_at "sml"); (walk_at "sm"); (walk_at "sml"))
    | ((with_reducible apply eChain3_e); (walk_at "sm"); (walk_at "sm"); (walk_at "sml"); (walk_at "sm"); (walk_at "sml"); (walk_at "sm"); (walk_at "sml"))
    | ((with_reducible apply bOr_e); (walk_at "sm"); (first | ((apply ite_T); (walk_at "smb"); rfl) | ((apply ite_F); (walk_at "smb"); (walk_at "sm")) | ((apply or_gen); (walk_at "sm"))))
    | ((with_reducible apply bAnd_e); (walk_at "sm"); (first | ((apply ite_F); (walk_at "smb"); rfl) | ((apply ite_T); (walk_at "smb"); (walk_at "sm")) | ((apply and_gen); (walk_at "sm"))))
    | ((with_reducible apply eOr_e); (walk_at "sm"); (first | ((apply ite_T); (walk_at "smb"); rfl) | ((apply ite_F); (walk_at "smb"); (walk_at "sm")) | ((apply eor_gen); (walk_at "sm"))))
    | ((with_reducible apply eAnd_e); (walk_at "sm"); (first | ((apply ite_F); (walk_at "smb"); rfl) | ((apply ite_T); (walk_at "smb"); (walk_at "sm")) | ((apply eand_gen); (walk_at "sm"))))
    | ((with_reducible apply eIf_e); (walk_at "sm"); (first | ((apply ite_T); (walk_at "smb"); (walk_at "sm")) | ((apply ite_F); (walk_at "smb"); (walk_at "sm"))))
    | ((with_reducible apply sIf_e); (walk_at "sm"); (first | ((apply ite_T); (walk_at "smb"); (walk_at "sm")) | ((apply ite_F); (walk_at "smb"); (walk_at "sm"))))
    | ((with_reducible apply sSeq_e); (walk_at "sm"); (first | with_reducible exact seqK_rt | ((with_reducible apply seqK_nx); (walk_at "sm")) | ((with_reducible refine Eq.trans seqK_rt ?_); rfl)))
    | ((with_reducible apply sRet_eq); (walk_at "sm"))
    | ((with_reducible apply sAsg_eq); (walk_at "sm"); (walk_at "smg"))
    | with_reducible assumption
    | walk_at "smx")
local macro_rules
  | `(tactic| walk_at "smx") => `(tactic| fail "no step")
local macro_rules
  | `(tactic| walk_at "smg") => `(tactic| first
    | ((with_reducible apply gNm_e); ((dsimp only [List.set]) <;> rfl))
    | ((with_reducible apply gTp_e); rfl; ((dsimp only [setAll, List.set]) <;> rfl))
    | rfl)

def prL : List Int := [11, 13, 17, 19, 23, 29, 31, 37, 41, 43, 47, 53, 59, 61, 67, 71, 73, 79, 83, 89, 97, 101, 103, 107, 109, 113, 127, 131, 137, 139, 149, 151, 157, 163, 167, 173, 179, 181, 191, 193, 197, 199, 211]
def prB (i : Int) : Bool := prL.any fun y => i == y
def spPr : PyData → Bool
  | .int i => prB i
  | _ => false
theorem in_prs (i : Int) (M : Mem) : fIn false M (.dat (.int i)) (.dat k_PRIMES) = some (.dat (.bool (prB i))) := by
  have e : k_PRIMES = .tuple (prL.map PyData.int) := rfl
  rw [e]
  have h : ∀ l : List Int, (l.map PyData.int).all flatD = true := by
    intro l; induction l with
    | nil => rfl
    | cons a l ih => simp [flatD]
  have h2 : inD (.int i) (prL.map PyData.int) = prB i := by
    unfold inD prB
    rw [List.any_map]
    apply congrArg (fun f => prL.any f)
    funext y
    simp only [Function.comp, PyData.eqv]
    exact BEq.comm
  simp [fIn, items, flatD, h, h2]

theorem rowB_nt {p n : Int} {d : PyData} (h : kTup d = false) : rowB p n d = false := by cases d <;> first | rfl | cases h
theorem filt_all (f : PyData → Bool) : ∀ ds : List PyData, ((ds.filter fun d => !f d).map fun d => d).isEmpty = ds.all f
  | [] => rfl
  | d :: ds => by
    have ih := filt_all f ds
    cases h : f d with
    | true => simp only [List.filter_cons, h, Bool.not_true, Bool.false_eq_true, if_false, List.all_cons, Bool.true_and]; exact ih
    | false => simp [List.filter_cons, h]
theorem rowB_row {p n : Int} {zs : List Int} (hl : (zs.length : Int) = n) (h : ∀ z ∈ zs, 0 ≤ z ∧ z < p) : rowB p n (.tuple (zs.map PyData.int)) = true := by
  have : (zs.map PyData.int).all (restB p) = true := by
    rw [List.all_eq_true]
    intro x hx
    obtain ⟨z, hz, rfl⟩ := List.mem_map.mp hx
    have := h z hz
    simp [restB, this.1, this.2]
  simp only [rowB, this, List.length_map, hl, beq_self_eq_true, Bool.and_self]
theorem shaped_pairs : ∀ ps : List (Int × Int), PyData.canLayAll0 (ps.map pD) = true ∧ PyData.depthAll (ps.map pD) ≤ 1
  | [] => ⟨rfl, by simp [PyData.depthAll]⟩
  | q :: ps => by
    obtain ⟨h1, h2⟩ := shaped_pairs ps
    exact ⟨by simp [PyData.canLayAll0, PyData.canLay0, h1], by simp [PyData.depthAll, PyData.depth]; omega⟩
theorem l_neSame {M : Mem} {xs : List PyData} (h : SeqAt.shaped (.tuple xs) = true) : lift2 dNe M (.dat (.tuple xs)) (.dat (.tuple xs)) = some (.dat (.bool false)) := by
  have e : PyData.eqv (.tuple xs) (.tuple xs) = true := SeqAt.eqv_refl _ (SeqAt.canLay_of_shaped h)
  simp only [lift2, dNe, h, Bool.and_self, if_true, Option.bind_some, e, Bool.not_true]
theorem l_eqSame {M : Mem} {xs : List PyData} (h : SeqAt.shaped (.tuple xs) = true) : lift2 dEq M (.dat (.tuple xs)) (.dat (.tuple xs)) = some (.dat (.bool true)) := by
  have e : PyData.eqv (.tuple xs) (.tuple xs) = true := SeqAt.eqv_refl _ (SeqAt.canLay_of_shaped h)
  simp only [lift2, dEq, h, Bool.and_self, if_true, Option.bind_some, e]
theorem pairs_shaped (ps : List (Int × Int)) : SeqAt.shaped (.tuple (ps.map pD)) = true := by
  obtain ⟨h1, h2⟩ := shaped_pairs ps
  have h3 : (PyData.tuple (ps.map pD)).depth ≤ 64 := by simp only [PyData.depth]; omega
  have h4 : (PyData.tuple (ps.map pD)).canLay0 = true := by simp only [PyData.canLay0]; exact h1
  unfold SeqAt.shaped
  rw [h4, decide_eq_true h3]; rfl

theorem is_number_ok (d : PyData) (M : Mem) : F_is_number [.dat d] M = some (.dat (.bool (kNum d)), M) := by
  refine mkF_e ?_ rfl
  rw [← knum d]
  show B_is_number [some (.dat d)] M = _
  walk_at "sm"
theorem is_rest_ok (p : Int) (d : PyData) (M : Mem) : F_is_rest [ze p, .dat d] M = some (.dat (.bool (restB p d)), M) := by
  have hn := is_number_ok d M
  refine mkF_e ?_ rfl
  show B_is_rest [some (ze p), some (.dat d)] M = _
  cases d <;> (unfold restB; walk_at "sm")
theorem is_row_ok {p n : Int} (hn : n ≤ 1000) (d : PyData) (M : Mem) : F_is_row [ze p, ze n, .dat d] M = some (.dat (.bool (rowB p n d)), M) := by
  refine mkF_e ?_ rfl
  show B_is_row [some (ze p), some (ze n), some (.dat d), none] M = _
  by_cases ht : kTup d = true
  · cases d <;> first | cases ht | skip
    rename_i ds
    by_cases hl : (ds.length : Int) = n
    · have lc : eLc (iDat (eVar 2)) (gNm 3) bYes (eCall F_is_rest (aCons (eVar 0) (aCons (eVar 3) aNil))) [3] [some (ze p), some (ze n), some (.dat (.tuple ds)), none] M = some (.dat (.list (ds.map fun d => .bool (restB p d))), M) := by
        refine eLc_eq (M1 := M) (iDat_t rfl) (by omega) (lcL_map (f := fun d => .bool (restB p d)) ds fun d hd => ⟨_, rfl, ?_⟩)
        have := is_rest_ok p d M
        exact eCall_eq (M1 := M) (xs := [ze p, .dat d]) rfl this
      have hm := all_map (M := M) (restB p) ds
      have e : rowB p n (.tuple ds) = ds.all (restB p) := by simp [rowB, hl]
      rw [e]
      have hl' : (!((ds.length : Int) == n)) = false := by simp [hl]
      walk_at "sm"
    · have e : rowB p n (.tuple ds) = false := by simp [rowB, hl]
      rw [e]
      have hl' : (!((ds.length : Int) == n)) = true := by simp [hl]
      walk_at "sm"
  · have ht' : kTup d = false := by simpa using ht
    rw [rowB_nt ht']
    have hh : (!kTup d) = true := by rw [ht']; rfl
    walk_at "sm"

def rowsB (p n many : Int) : PyData → Bool
  | .tuple ds => ((ds.length : Int) == many) && ds.all (rowB p n)
  | _ => false
theorem rowsB_nt {p n many : Int} {d : PyData} (h : kTup d = false) : rowsB p n many d = false := by cases d <;> first | rfl | cases h
theorem are_rows_ok {p n many : Int} (hn : n ≤ 1000) (hm : many ≤ 1000) (x : PyData) (M : Mem) : F_are_rows [ze p, ze n, ze many, .dat x] M = some (.dat (.bool (rowsB p n many x)), M) := by
  refine mkF_rtL (M1 := M) rfl (sRet_eq ?_)
  have i0 : eUn (fIsi "tuple") (eVar 3) [some (ze p), some (ze n), some (ze many), some (.dat x), none] M = some (.dat (.bool (kTup x)), M) := eUn_eq (M1 := M) rfl (isi_tup x)
  by_cases ht : kTup x = true
  · rw [ht] at i0
    refine eAnd_e (M1 := M) i0 ?_
    rw [if_pos rfl]
    cases x <;> first | cases ht | skip
    rename_i ds
    have i1 : eOp (lift2 dEq) (eCB (one fLen) (aCons (eVar 3) aNil)) (eVar 2) [some (ze p), some (ze n), some (ze many), some (.dat (.tuple ds)), none] M = some (.dat (.bool ((ds.length : Int) == many)), M) := eOp_eq (M1 := M) (M2 := M) (x := ze (ds.length : Int)) (y := ze many) rfl rfl l_eq
    by_cases hl : (ds.length : Int) = many
    · have hb : ((ds.length : Int) == many) = true := by rw [hl]; simp
      rw [hb] at i1
      refine eAnd_e (M1 := M) i1 ?_
      rw [if_pos rfl]
      have lc := lcL_map (g := gNm 4) (ρ := [some (ze p), some (ze n), some (ze many), some (.dat (.tuple ds)), none]) (M := M) (el := eCall F_is_row (aCons (eVar 0) (aCons (eVar 1) (aCons (eVar 4) aNil)))) (f := fun e => .bool (rowB p n e)) ds (by
        intro e he
        exact ⟨[some (ze p), some (ze n), some (ze many), some (.dat (.tuple ds)), some (.dat e)], rfl, eCall_eq (M1 := M) (xs := [ze p, ze n, .dat e]) rfl (is_row_ok hn e M)⟩)
      have al := all_map (M := M) (rowB p n) ds
      have er : rowsB p n many (.tuple ds) = ds.all (rowB p n) := by
        show (((ds.length : Int) == many) && ds.all (rowB p n)) = _
        rw [hb, Bool.true_and]
      rw [er]
      exact eCB_eq (M1 := M) (aCons_eq (M1 := M) (eLc_eq (M1 := M) (iDat_t rfl) (by omega) lc) rfl) al
    · have hb : ((ds.length : Int) == many) = false := by rw [beq_eq_false_iff_ne]; exact hl
      rw [hb] at i1
      refine eAnd_e (M1 := M) i1 ?_
      rw [if_neg (by decide)]
      have er : rowsB p n many (.tuple ds) = false := by
        show (((ds.length : Int) == many) && ds.all (rowB p n)) = _
        rw [hb, Bool.false_and]
      rw [er]
  · have ht' : kTup x = false := by simpa using ht
    rw [ht'] at i0
    refine eAnd_e (M1 := M) i0 ?_
    rw [if_neg (by decide), rowsB_nt ht']

end Lk44

namespace Lk44
open PySem Sm L2
local macro_rules
  | `(tactic| walk_at "le") => `(tactic| ((try simp only [List.length_cons, List.length_nil, List.length_append, List.length_map]); omega))
local macro_rules
  | `(tactic| walk_at "smb") => `(tactic| first
    | with_reducible assumption
    | with_reducible rfl
    | assumption
    | rfl
    | (simp only [decide_eq_true_eq, decide_eq_false_iff_not, beq_iff_eq, Bool.not_eq_true', Bool.not_eq_false', beq_eq_false_iff_ne, Bool.and_eq_true, Bool.or_eq_true, Bool.not_eq_true, Bool.not_eq_false, ne_eq, Bool.and_eq_false_imp, Bool.or_eq_false_iff]; omega))
local macro_rules
  | `(tactic| walk_at "smf") => `(tactic| fail "no call")
local macro_rules
  | `(tactic| walk_at "sml") => `(tactic| first
    | with_reducible assumption
    | with_reducible exact l_add
    | with_reducible exact l_sub
    | with_reducible exact l_eq
    | with_reducible exact l_ne
    | with_reducible exact l_lt
    | with_reducible exact l_le
    | with_reducible exact l_gt
    | with_reducible exact l_ge
    | with_reducible exact l_eqSS
    | with_reducible exact l_neSS
    | with_reducible exact l_eqBS
    | with_reducible exact l_neBS
    | with_reducible exact l_eqB
    | with_reducible exact l_neB
    | with_reducible exact l_eqS
    | with_reducible exact l_neS
    | with_reducible exact l_neg
    | with_reducible exact isi_int _
    | with_reducible exact isi_bool _
    | with_reducible exact isi_tup _
    | with_reducible exact l_lenL
    | with_reducible exact l_lenT
    | with_reducible exact l_slL
    | with_reducible exact l_slT
    | ((with_reducible apply l_mod); (walk_at "smo"))
    | ((with_reducible apply l_mul); (walk_at "smo"))
    | ((with_reducible apply l_div); (walk_at "smo"); (walk_at "smo"))
    | ((with_reducible apply l_addT); rfl)
    | ((with_reducible apply l_addL); rfl)
    | ((with_reducible apply l_ixL); first | assumption | rfl)
    | ((with_reducible apply l_ixT); first | assumption | rfl)
    | ((with_reducible apply one_eq); (walk_at "sml"))
    | with_reducible assumption
    | rfl)
local macro_rules
  | `(tactic| walk_at "smo") => `(tactic| first | assumption | omega)
local macro_rules
  | `(tactic| walk_at "sm") => `(tactic| first
    | with_reducible assumption
    | with_reducible exact aNil_eq
    | with_reducible exact eC_eq
    | with_reducible exact sNext_eq
    | with_reducible exact eD0_eq
    | ((with_reducible apply eD1_eq); (walk_at "sm"))
    | ((with_reducible apply eC_e); rfl)
    | with_reducible exact oNone_eq
    | ((with_reducible apply eVar_eq); rfl)
    | ((with_reducible apply aCons_eq); (walk_at "sm"); (walk_at "sm"))
    | ((with_reducible apply eOp_eq); (walk_at "sm"); (walk_at "sm"); (walk_at "sml"))
    | ((with_reducible apply eUn_eq); (walk_at "sm"); (walk_at "sml"))
    | ((with_reducible apply eCB_eq); (walk_at "sm"); (walk_at "sml"))
    | ((with_reducible apply eCall_eq); (walk_at "sm"); (first | with_reducible assumption | walk_at "smf"))
    | ((with_reducible apply eTup_e); (walk_at "sm"); rfl; rfl)
    | ((with_reducible apply eLst_e); (walk_at "sm"); rfl; rfl)
    | ((with_reducible apply oSome_eq); (walk_at "sm"))
    | ((with_reducible apply eSl_eq); (walk_at "sm"); (walk_at "sm"); (walk_at "sm"); (walk_at "sml"))
    | ((with_reducible apply eNot_eq); (walk_at "sm"))
    | ((with_reducible apply bNot_eq); (walk_at "sm"))
    | ((with_reducible apply bVal_eq); (walk_at "sm"))
    | ((with_reducible apply bTru_b); (walk_at "sm"))
    | ((with_reducible apply eChain_e); (walk_at "sm"); (walk_at "sm"); (walk_at "sml"); (walk_at "sm"); (walk_at "sml"))
    | ((with_reducible apply eChain3_e); (walk_at "sm"); (walk_at "sm"); (walk_at "sml"); (walk_at "sm"); (walk_at "sml"); (walk_at "sm"); (walk_at "sml"))
    | ((with_reducible apply bOr_e); (walk_at "sm"); (first | ((apply ite_T); (walk_at "smb"); rfl) | ((apply ite_F); (walk_at "smb"); (walk_at "sm")) | ((apply or_gen); (walk_at "sm"))))
    | ((with_reducible apply bAnd_e); (walk_at "sm"); (first | ((apply ite_F); (walk_at "smb"); rfl) | ((apply ite_T); (walk_at "smb"); (walk_at "sm")) | ((apply and_gen); (walk_at "sm"))))
    | ((with_reducible apply eOr_e); (walk_at "sm"); (first | ((apply ite_T); (walk_at "smb"); rfl) | ((apply ite_F); (walk_at "smb"); (walk_at "sm")) | ((apply eor_gen); (walk_at "sm"))))
    | ((with_reducible apply eAnd_e); (walk_at "sm"); (first | ((apply ite_F); (walk_at "smb"); rfl) | ((apply ite_T); (walk_at "smb"); (walk_at "sm")) | ((apply eand_gen); (walk_at "sm"))))
    | ((with_reducible apply eIf_e); (walk_at "sm"); (first | ((apply ite_T); (walk_at "smb"); (walk_at "sm")) | ((apply ite_F); (walk_at "smb"); (walk_at "sm"))))
    | ((with_reducible apply sIf_e); (walk_at "sm"); (first | ((apply ite_T); (walk_at "smb"); (walk_at "sm")) | ((apply ite_F); (walk_at "smb"); (walk_at "sm"))))
    | ((with_reducible apply sSeq_e); (walk_at "sm"); (first | with_reducible exact seqK_rt | ((with_reducible apply seqK_nx); (walk_at "sm")) | ((with_reducible refine Eq.trans seqK_rt ?_); rfl)))
    | ((with_reducible apply sRet_eq); (walk_at "sm"))
    | ((with_reducible apply sAsg_eq); (walk_at "sm"); (walk_at "smg"))
    | with_reducible assumption
    | walk_at "smx")
local macro_rules
  | `(tactic| walk_at "smx") => `(tactic| fail "no step")
local macro_rules
  | `(tactic| walk_at "smg") => `(tactic| first
    | ((with_reducible apply gNm_e); ((dsimp only [List.set]) <;> rfl))
    | ((with_reducible apply gTp_e); rfl; ((dsimp only [setAll, List.set]) <;> rfl))
    | rfl)

theorem bOr_ff {t u : SB} {ρ : Rho} {M M1 M2 : Mem} {w : Bool} (h1 : t ρ M = some (false, M1)) (h2 : u ρ M1 = some (w, M2)) : bOr t u ρ M = some (w, M2) := by
  simp only [bOr, h1, Option.bind_some, Bool.false_eq_true, if_false, h2]

/-! ### the law -/
theorem number_ok (z : Int) (M : Mem) : F_is_number [ze z] M = some (.dat (.bool true), M) := by
  refine mkF_rtL (M1 := M) rfl ?_
  show B_is_number [some (ze z)] M = _
  unfold B_is_number
  exact sRet_eq (eAnd_eq (v := true) (w := true) (M1 := M) (eUn_eq (M1 := M) (x := ze z) rfl (isi_int _)) fun _ => eNot_eq (v := false) (eUn_eq (M1 := M) (x := ze z) rfl (isi_bool _)))
theorem prime_yes {p : Int} (hp : p ∈ prl) (M : Mem) : F_is_prime [ze p] M = some (.dat (.bool true), M) := by
  have hb : prB p = true := by
    have : ∀ p ∈ prl, prB p = true := by decide
    exact this p hp
  have e := in_prs p M
  rw [hb] at e
  exact mkF_rtL (M1 := M) rfl (sRet_eq (eAnd_eq (v := true) (w := true) (M1 := M) (eCall_eq (M1 := M) (xs := [ze p]) rfl (number_ok p M)) fun _ => eOp_eq (M1 := M) (M2 := M) (x := ze p) (y := .dat k_PRIMES) rfl rfl e))
theorem len_tup {M : Mem} {ds : List PyData} {n : Nat} (h : ds.length = n) : fLen M (.dat (.tuple ds)) = some (ze (n : Int)) := by
  rw [← h]; rfl
section
variable {p : Nat} {l : Int} {k d : Nat} {M : Mem}
theorem told_bd (hp : 0 < p) {x y : Int} : RR.Bd p (plc k d).length (toldL p k d x y) := accT_bd hp fun c _ => List.length_map _
theorem tell_bd (hp : 0 < p) {x y : Int} : RR.Bd p (plc k d).length (tellL p k d y x) := by
  unfold tellL
  split
  · exact ⟨List.length_replicate, fun z hz => by rw [List.eq_of_mem_replicate hz]; omega⟩
  · exact told_bd hp
theorem krow_bd (hp : 1 < p) {x : Int} {c : Nat} : RR.Bd p (plc k d).length (krow p x k d c) := ⟨List.length_map _, fun z hz => by
  obtain ⟨q, _, rfl⟩ := List.mem_map.mp hz
  exact tk_b (by omega) c q⟩
theorem rowsB_of {n many : Int} {R : List (List Int)} (hl : (R.length : Int) = many) (h : ∀ r ∈ R, (r.length : Int) = n ∧ ∀ z ∈ r, 0 ≤ z ∧ z < (p : Int)) : rowsB p n many (.tuple (R.map rD)) = true := by
  show (((R.map rD).length : Int) == many && (R.map rD).all (rowB p n)) = true
  rw [List.length_map, hl, beq_self_eq_true, Bool.true_and, List.all_eq_true]
  intro x hx
  obtain ⟨r, hr, rfl⟩ := List.mem_map.mp hx
  exact rowB_row (h r hr).1 (h r hr).2
theorem kept_rowsB (hp : 1 < p) {x : Int} : rowsB p ((plc k d).length : Int) (d : Int) (keptD p k d x) = true := by
  have e : keptD p k d x = .tuple (((List.range d).map fun c => krow p x k d c).map rD) := by
    show PyData.tuple _ = PyData.tuple _
    rw [List.map_map]; rfl
  rw [e]
  refine rowsB_of (by rw [List.length_map, List.length_range]) fun r hr => ?_
  obtain ⟨c, _, rfl⟩ := List.mem_map.mp hr
  have := krow_bd (p := p) (k := k) (d := d) hp (x := x) (c := c)
  exact ⟨by rw [this.1], this.2⟩
theorem tell_rowsB (hp : 1 < p) {xs : List Int} {y : Int} : rowsB p ((plc k d).length : Int) (xs.length : Int) (tellD p k d xs y) = true := by
  have e : tellD p k d xs y = .tuple ((xs.map fun x => tellL p k d y x).map rD) := by
    show PyData.tuple _ = PyData.tuple _
    rw [List.map_map]; rfl
  rw [e]
  refine rowsB_of (by rw [List.length_map]) fun r hr => ?_
  obtain ⟨x, _, rfl⟩ := List.mem_map.mp hr
  have := tell_bd (p := p) (k := k) (d := d) (by omega : 0 < p) (x := x) (y := y)
  exact ⟨by rw [this.1], this.2⟩
theorem are_keeps_ok (hP : PrP p) (h1 : 1 ≤ k) (hkd : k ≤ d) (hd : d ≤ 5) {xs : List Int} (xl1 : d + 1 ≤ xs.length) (xl2 : xs.length ≤ 8) : F_are_keeps [ze p, ze ((plc k d).length : Int), .dat (.tuple (xs.map (keptD p k d)))] M = some (.dat (.bool true), M) := by
  have p1 := hP.1
  have small := plc_small (k := k) (d := d) (by omega) (by omega)
  obtain ⟨x0, xs', rfl⟩ : ∃ x0 xs', xs = x0 :: xs' := by
    cases xs with
    | nil => simp at xl1
    | cons a b => exact ⟨a, b, rfl⟩
  generalize hxs : x0 :: xs' = xs at xl1 xl2
  have ln : fLen M (.dat (.tuple (xs.map (keptD p k d)))) = some (ze (xs.length : Int)) := len_tup (List.length_map _)
  have at0 : fIx M (.dat (.tuple (xs.map (keptD p k d)))) (ze 0) = some (.dat (keptD p k d x0)) := by rw [← hxs]; exact l_ixT (atI_in (k := 0) rfl rfl)
  have l0 : fLen M (.dat (keptD p k d x0)) = some (ze (d : Int)) := len_tup (by rw [List.length_map, List.length_range])
  generalize hv : SV.dat (.tuple (xs.map (keptD p k d))) = v at *
  have ix0 : eOp fIx (eVar 2) (eC (.int 0)) [some (ze p), some (ze ((plc k d).length : Int)), some v, none] M = some (.dat (keptD p k d x0), M) := eOp_eq (M1 := M) (M2 := M) (x := v) (y := ze 0) rfl rfl at0
  have isT : ∀ y : SV, y = v ∨ y = .dat (keptD p k d x0) → fIsi "tuple" M y = some (.dat (.bool true)) := fun y hy => by
    rcases hy with rfl | rfl
    · rw [← hv]; exact isi_tup _
    · exact isi_tup _
  have t1 : bOr (bNot (bVal (eUn (fIsi "tuple") (eVar 2)))) (bNot (bVal (eChain (lift2 dLe) (lift2 dLe) (eC k_FEWEST_HOUSES) (eCB (one fLen) (aCons (eVar 2) aNil)) (eC k_MOST_HOUSES)))) [some (ze p), some (ze ((plc k d).length : Int)), some v, none] M = some (false, M) := by
    refine bOr_ff (bNot_eq (v := true) (bVal_eq (eUn_eq (M1 := M) (x := v) rfl (isT v (.inl rfl))))) (bNot_eq (v := true) (bVal_eq ?_))
    have := eChain_e (f := lift2 dLe) (f' := lift2 dLe) (a := eC k_FEWEST_HOUSES) (b := eCB (one fLen) (aCons (eVar 2) aNil)) (c := eC k_MOST_HOUSES) (ρ := [some (ze p), some (ze ((plc k d).length : Int)), some v, none]) (M := M) (M1 := M) (M2 := M) (x := ze 2) (y := ze (xs.length : Int)) (w := ze 8) (k := decide ((2 : Int) ≤ (xs.length : Int))) (k' := decide ((xs.length : Int) ≤ 8)) rfl (eCB_eq (M1 := M) (xs := [v]) rfl ln) l_le rfl l_le
    rw [decide_eq_true (show (2 : Int) ≤ (xs.length : Int) by omega), decide_eq_true (show (xs.length : Int) ≤ 8 by omega)] at this
    exact this
  have mn : fMin2 M [ze 5, ze ((xs.length : Int) - 1)] = some (ze (if (xs.length : Int) - 1 < 5 then (xs.length : Int) - 1 else 5)) := rfl
  have t2 : bOr (bNot (bVal (eUn (fIsi "tuple") (eOp fIx (eVar 2) (eC (.int 0)))))) (bNot (bVal (eChain (lift2 dLe) (lift2 dLe) (eC (.int 1)) (eCB (one fLen) (aCons (eOp fIx (eVar 2) (eC (.int 0))) aNil)) (eCB fMin2 (aCons (eC k_MOST_COLUMNS) (aCons (eOp (lift2 dSub) (eCB (one fLen) (aCons (eVar 2) aNil)) (eC (.int 1))) aNil)))))) [some (ze p), some (ze ((plc k d).length : Int)), some v, none] M = some (false, M) := by
    refine bOr_ff (bNot_eq (v := true) (bVal_eq (eUn_eq (M1 := M) ix0 (isT _ (.inr rfl))))) (bNot_eq (v := true) (bVal_eq ?_))
    have := eChain_e (f := lift2 dLe) (f' := lift2 dLe) (a := eC (.int 1)) (b := eCB (one fLen) (aCons (eOp fIx (eVar 2) (eC (.int 0))) aNil)) (c := eCB fMin2 (aCons (eC k_MOST_COLUMNS) (aCons (eOp (lift2 dSub) (eCB (one fLen) (aCons (eVar 2) aNil)) (eC (.int 1))) aNil))) (ρ := [some (ze p), some (ze ((plc k d).length : Int)), some v, none]) (M := M) (M1 := M) (M2 := M) (x := ze 1) (y := ze (d : Int)) (w := ze (if (xs.length : Int) - 1 < 5 then (xs.length : Int) - 1 else 5)) (k := decide ((1 : Int) ≤ (d : Int))) (k' := decide ((d : Int) ≤ (if (xs.length : Int) - 1 < 5 then (xs.length : Int) - 1 else 5))) rfl (eCB_eq (M1 := M) (aCons_eq (M1 := M) ix0 rfl) l0) l_le (eCB_eq (M1 := M) (xs := [ze 5, ze ((xs.length : Int) - 1)]) (aCons_eq (M1 := M) (x := ze 5) rfl (aCons_eq (M1 := M) (eOp_eq (M1 := M) (M2 := M) (x := ze (xs.length : Int)) (y := ze 1) (eCB_eq (M1 := M) (xs := [v]) rfl ln) rfl l_sub) rfl)) mn) l_le
    rw [decide_eq_true (show (1 : Int) ≤ (d : Int) by omega), decide_eq_true (show (d : Int) ≤ (if (xs.length : Int) - 1 < 5 then (xs.length : Int) - 1 else 5) by split <;> omega)] at this
    exact this
  have lc := lc_all (g := gNm 3) (el := eCall F_are_rows (aCons (eVar 0) (aCons (eVar 1) (aCons (eCB (one fLen) (aCons (eOp fIx (eVar 2) (eC (.int 0))) aNil)) (aCons (eVar 3) aNil))))) (ρ := [some (ze p), some (ze ((plc k d).length : Int)), some v, none]) (M := M) (toD := keptD p k d) (f := fun _ => PyData.bool true) xs (fun x _ => by
    have ar := are_rows_ok (p := (p : Int)) (n := ((plc k d).length : Int)) (many := (d : Int)) (by omega) (by omega) (keptD p k d x) M
    rw [kept_rowsB (by omega)] at ar
    have ix1 : eOp fIx (eVar 2) (eC (.int 0)) [some (ze p), some (ze ((plc k d).length : Int)), some v, some (.dat (keptD p k d x))] M = some (.dat (keptD p k d x0), M) := eOp_eq (M1 := M) (M2 := M) (x := v) (y := ze 0) rfl rfl at0
    exact ⟨_, rfl, eCall_eq (M1 := M) (xs := [ze p, ze ((plc k d).length : Int), ze (d : Int), .dat (keptD p k d x)]) (aCons_eq (M1 := M) rfl (aCons_eq (M1 := M) rfl (aCons_eq (M1 := M) (eCB_eq (M1 := M) (aCons_eq (M1 := M) ix1 rfl) l0) rfl))) ar⟩)
  have ab : lift1 dAll M (.dat (.list (xs.map fun _ => PyData.bool true))) = some (.dat (.bool true)) := by
    have e : (xs.map fun _ => PyData.bool true) = (xs.map fun x => PyData.int x).map fun d => PyData.bool ((fun _ : PyData => true) d) := by rw [List.map_map]; rfl
    rw [e, all_map]
    simp
  refine mkF_rtL (M1 := M) rfl (sSeq_nx (M1 := M) (sIf_f (M1 := M) t1 rfl) (sSeq_nx (M1 := M) (sIf_f (M1 := M) t2 rfl) (sRet_eq ?_)))
  exact eCB_eq (M1 := M) (aCons_eq (M1 := M) (eLc_eq (M1 := M) (vs := [3]) (iDat_e (M1 := M) (a := eVar 2) (d := .tuple (xs.map (keptD p k d))) (by rw [hv]; rfl) rfl) (by rw [List.length_map]; omega) lc) rfl) ab
theorem are_tells_ok (hP : PrP p) (h1 : 1 ≤ k) (hkd : k ≤ d) (hd : d ≤ 5) {xs : List Int} (xl2 : xs.length ≤ 8) : F_are_tells [ze p, ze ((plc k d).length : Int), ze (xs.length : Int), .dat (.tuple (xs.map (tellD p k d xs)))] M = some (.dat (.bool true), M) := by
  have p1 := hP.1
  have small := plc_small (k := k) (d := d) (by omega) (by omega)
  have ln : fLen M (.dat (.tuple (xs.map (tellD p k d xs)))) = some (ze (xs.length : Int)) := len_tup (List.length_map _)
  have t1 : bOr (bNot (bVal (eUn (fIsi "tuple") (eVar 3)))) (bVal (eOp (lift2 dNe) (eCB (one fLen) (aCons (eVar 3) aNil)) (eVar 2))) [some (ze p), some (ze ((plc k d).length : Int)), some (ze (xs.length : Int)), some (.dat (.tuple (xs.map (tellD p k d xs)))), none] M = some (false, M) := by
    refine bOr_ff (bNot_eq (v := true) (bVal_eq (eUn_eq (M1 := M) (x := .dat (.tuple (xs.map (tellD p k d xs)))) rfl (isi_tup _)))) (bVal_eq (eOp_eq (M1 := M) (M2 := M) (x := ze (xs.length : Int)) (y := ze (xs.length : Int)) (eCB_eq (M1 := M) (xs := [.dat (.tuple (xs.map (tellD p k d xs)))]) rfl ln) rfl ?_))
    rw [l_ne, beq_self_eq_true]; rfl
  have lc := lc_all (g := gNm 4) (el := eCall F_are_rows (aCons (eVar 0) (aCons (eVar 1) (aCons (eVar 2) (aCons (eVar 4) aNil))))) (ρ := [some (ze p), some (ze ((plc k d).length : Int)), some (ze (xs.length : Int)), some (.dat (.tuple (xs.map (tellD p k d xs)))), none]) (M := M) (toD := tellD p k d xs) (f := fun _ => PyData.bool true) xs (fun y _ => by
    have ar := are_rows_ok (p := (p : Int)) (n := ((plc k d).length : Int)) (many := (xs.length : Int)) (by omega) (by omega) (tellD p k d xs y) M
    rw [tell_rowsB (by omega)] at ar
    exact ⟨_, rfl, eCall_eq (M1 := M) (xs := [ze p, ze ((plc k d).length : Int), ze (xs.length : Int), .dat (tellD p k d xs y)]) rfl ar⟩)
  have ab : lift1 dAll M (.dat (.list (xs.map fun _ => PyData.bool true))) = some (.dat (.bool true)) := by
    have e : (xs.map fun _ => PyData.bool true) = (xs.map fun x => PyData.int x).map fun d => PyData.bool ((fun _ : PyData => true) d) := by rw [List.map_map]; rfl
    rw [e, all_map]
    simp
  refine mkF_rtL (M1 := M) rfl (sSeq_nx (M1 := M) (sIf_f (M1 := M) t1 rfl) (sRet_eq ?_))
  exact eCB_eq (M1 := M) (aCons_eq (M1 := M) (eLc_eq (M1 := M) (vs := [4]) (iDat_e (M1 := M) (d := .tuple (xs.map (tellD p k d xs))) rfl rfl) (by rw [List.length_map]; omega) lc) rfl) ab
theorem is_laying_of {p n m : Int} {KD TD : PyData} (py : F_is_prime [ze p] M = some (.dat (.bool true), M)) (n1 : 1 ≤ n) (n2 : n ≤ 24) (ak : F_are_keeps [ze p, ze n, .dat KD] M = some (.dat (.bool true), M)) (ln : fLen M (.dat KD) = some (ze m)) (at_ : F_are_tells [ze p, ze n, ze m, .dat TD] M = some (.dat (.bool true), M)) : F_is_laying [.dat (.tuple [.int p, .int n, KD, TD])] M = some (.dat (.bool true), M) := by
  have ny := number_ok n M
  have t1 : bOr (bNot (bVal (eUn (fIsi "tuple") (eVar 0)))) (bVal (eOp (lift2 dNe) (eCB (one fLen) (aCons (eVar 0) aNil)) (eC (.int 4)))) [some (.dat (.tuple [.int p, .int n, KD, TD])), none, none, none, none] M = some (false, M) :=
    bOr_ff (bNot_eq (v := true) (bVal_eq (eUn_eq (M1 := M) (x := .dat (.tuple [.int p, .int n, KD, TD])) rfl (isi_tup _)))) (bVal_eq (eOp_eq (M1 := M) (M2 := M) (x := ze 4) (y := ze 4) (eCB_eq (M1 := M) (xs := [.dat (.tuple [.int p, .int n, KD, TD])]) rfl rfl) rfl rfl))
  have t3 : bOr (bNot (bVal (eCall F_is_prime (aCons (eVar 1) aNil)))) (bOr (bNot (bVal (eCall F_is_number (aCons (eVar 2) aNil)))) (bNot (bVal (eChain (lift2 dLe) (lift2 dLe) (eC (.int 1)) (eVar 2) (eC k_MOST_HIDDEN))))) [some (.dat (.tuple [.int p, .int n, KD, TD])), some (ze p), some (ze n), some (.dat KD), some (.dat TD)] M = some (false, M) := by
    refine bOr_ff (bNot_eq (v := true) (bVal_eq (eCall_eq (M1 := M) (xs := [ze p]) rfl py))) (bOr_ff (bNot_eq (v := true) (bVal_eq (eCall_eq (M1 := M) (xs := [ze n]) rfl ny))) (bNot_eq (v := true) (bVal_eq ?_)))
    have := eChain_e (f := lift2 dLe) (f' := lift2 dLe) (a := eC (.int 1)) (b := eVar 2) (c := eC k_MOST_HIDDEN) (ρ := [some (.dat (.tuple [.int p, .int n, KD, TD])), some (ze p), some (ze n), some (.dat KD), some (.dat TD)]) (M := M) (M1 := M) (M2 := M) (x := ze 1) (y := ze n) (w := ze 24) (k := decide ((1 : Int) ≤ n)) (k' := decide (n ≤ 24)) rfl rfl l_le rfl l_le
    rw [decide_eq_true n1, decide_eq_true n2] at this
    exact this
  refine mkF_rtL (M1 := M) rfl ?_
  refine sSeq_nx (M1 := M) (sIf_f (M1 := M) t1 rfl) ?_
  refine sSeq_nx (M1 := M) (ρ1 := [some (.dat (.tuple [.int p, .int n, KD, TD])), some (ze p), some (ze n), some (.dat KD), some (.dat TD)]) rfl ?_
  refine sSeq_nx (M1 := M) (sIf_f (M1 := M) t3 rfl) (sRet_eq ?_)
  exact eAnd_eq (v := true) (w := true) (M1 := M) (eCall_eq (M1 := M) (xs := [ze p, ze n, .dat KD]) rfl ak) fun _ => eCall_eq (M1 := M) (xs := [ze p, ze n, ze m, .dat TD]) (aCons_eq (M1 := M) rfl (aCons_eq (M1 := M) rfl (aCons_eq (M1 := M) (eCB_eq (M1 := M) (xs := [.dat KD]) rfl ln) (aCons_eq (M1 := M) rfl rfl)))) at_
theorem is_laying_ok (hP : PrP p) (hp : (p : Int) ∈ prl) (h1 : 1 ≤ k) (hkd : k ≤ d) (hd : d ≤ 5) {xs : List Int} (xl1 : d + 1 ≤ xs.length) (xl2 : xs.length ≤ 8) : F_is_laying [.dat (layD p k d xs)] M = some (.dat (.bool true), M) := by
  have pl : ∀ d, d ≤ 5 → ∀ k, k ≤ d → (plc k d).length ≤ 15 := by decide
  have s15 := pl d hd k hkd
  have n1 : 1 ≤ (plc k d).length := List.length_pos_of_mem ((mem_plc (q := (0, 0))).mpr ⟨by dsimp only; omega, by dsimp only; omega, by dsimp only; omega⟩)
  exact is_laying_of (prime_yes hp M) (by omega) (by omega) (are_keeps_ok (M := M) hP h1 hkd hd xl1 xl2) (len_tup (List.length_map _)) (are_tells_ok (M := M) hP h1 hkd hd xl2)
end
section
variable {rest : Mem} {b : Int} {M : Mem}
theorem houses_ok (h : Gd rest b M) (hb : b < 14000000) {p d : Nat} (h11 : 11 ≤ p) (hp : p < 1000) (h1 : 1 ≤ d) (hd : d ≤ 5) : ∃ (xs : List Int) (M' : Mem), F_xhouses [.cel 3, ze (p : Int), ze (d : Int)] M = some (.dat (rD xs), M') ∧ d + 1 ≤ xs.length ∧ xs.length ≤ 8 ∧ xs.Pairwise (· < ·) ∧ (∀ z ∈ xs, 0 ≤ z ∧ z < (p : Int)) ∧ Gd rest (b + 20) M' := by
  obtain ⟨r, M1, e1, r1, g1⟩ := next_n h (by omega) (many := 8 - d) (by omega) (by omega)
  obtain ⟨w, M2, e2, w1, g2⟩ := next_n g1 (by omega) (many := 6) (by omega) (by omega)
  have sb : lift2 dSub M (ze 8) (ze (d : Int)) = some (ze ((8 - d : Nat) : Int)) := by
    have : (8 : Int) - (d : Int) = ((8 - d : Nat) : Int) := by omega
    rw [l_sub, this]
  have ad : lift2 dAdd M1 (ze ((d : Int) + 1)) (ze (r : Int)) = some (ze ((d + 1 + r : Nat) : Int)) := by
    have : (d : Int) + 1 + (r : Int) = ((d + 1 + r : Nat) : Int) := by omega
    rw [l_add, this]
  have s1 : B_xhouses_1 [some (.cel 3), some (ze (p : Int)), some (ze (d : Int)), none, none] M = some (.nx [some (.cel 3), some (ze (p : Int)), some (ze (d : Int)), some (ze ((d + 1 + r : Nat) : Int)), none] M1) :=
    sAsg_eq (M1 := M1) (eOp_eq (M1 := M) (M2 := M1) (x := ze ((d : Int) + 1)) (y := ze (r : Int)) (eOp_eq (M1 := M) (M2 := M) (x := ze (d : Int)) (y := ze 1) rfl rfl l_add) (eCall_eq (M1 := M) (xs := [.cel 3, ze ((8 - d : Nat) : Int)]) (aCons_eq (x := .cel 3) (M1 := M) rfl (aCons_eq (M1 := M) (eOp_eq (M1 := M) (M2 := M) (x := ze 8) (y := ze (d : Int)) rfl rfl sb) rfl)) e1) ad) rfl
  have s2 : B_xhouses_2 [some (.cel 3), some (ze (p : Int)), some (ze (d : Int)), some (ze ((d + 1 + r : Nat) : Int)), none] M1 = some (.nx [some (.cel 3), some (ze (p : Int)), some (ze (d : Int)), some (ze ((d + 1 + r : Nat) : Int)), some (ze (w : Int))] M2) :=
    sAsg_eq (M1 := M2) (eCall_eq (M1 := M1) (xs := [.cel 3, ze ((6 : Nat) : Int)]) rfl e2) rfl
  generalize hm : d + 1 + r = m at *
  have t0 : bVal (eOp (lift2 dEq) (eVar 4) (eC (.int 0))) [some (.cel 3), some (ze (p : Int)), some (ze (d : Int)), some (ze (m : Int)), some (ze (w : Int))] M2 = some ((w : Int) == 0, M2) := bVal_eq (eOp_eq (M1 := M2) (M2 := M2) (x := ze (w : Int)) (y := ze 0) rfl rfl l_eq)
  have t1 : bVal (eOp (lift2 dEq) (eVar 4) (eC (.int 1))) [some (.cel 3), some (ze (p : Int)), some (ze (d : Int)), some (ze (m : Int)), some (ze (w : Int))] M2 = some ((w : Int) == 1, M2) := bVal_eq (eOp_eq (M1 := M2) (M2 := M2) (x := ze (w : Int)) (y := ze 1) rfl rfl l_eq)
  have rise : ∀ a : Int, ((List.range m).map fun i : Nat => a + (i : Int)).Pairwise (· < ·) := fun a => by
    rw [List.pairwise_map]
    exact List.pairwise_lt_range.imp fun h => by omega
  by_cases h0 : (w : Int) = 0
  · rw [show ((w : Int) == 0) = true from beq_iff_eq.mpr h0] at t0
    refine ⟨(List.range m).map fun i : Nat => (0 : Int) + (i : Int), M2, mkF_rtL (h.len g2) (sSeq_nx s1 (sSeq_nx s2 (sSeq_rt (sIf_t t0 (sRet_eq ?_))))), by rw [List.length_map, List.length_range]; omega, by rw [List.length_map, List.length_range]; omega, rise 0, fun z hz => ?_, g2.up (by omega)⟩
    · rw [tr1_eq (j := (m : Int)) rfl (by omega) (by omega), range_natR]
      unfold rD
      rw [List.map_map]
      congr 4
      exact List.map_congr_left fun i _ => by show PyData.int (i : Int) = PyData.int (0 + (i : Int)); rw [Int.zero_add]
    · obtain ⟨i, hi, rfl⟩ := List.mem_map.mp hz
      have := List.mem_range.mp hi
      omega
  · rw [show ((w : Int) == 0) = false from beq_eq_false_iff_ne.mpr h0] at t0
    by_cases h2 : (w : Int) = 1
    · rw [show ((w : Int) == 1) = true from beq_iff_eq.mpr h2] at t1
      refine ⟨(List.range m).map fun i : Nat => ((p - m : Nat) : Int) + (i : Int), M2, mkF_rtL (h.len g2) (sSeq_nx s1 (sSeq_nx s2 (sSeq_nx (sIf_f t0 rfl) (sSeq_rt (sIf_t t1 (sRet_eq ?_)))))), by rw [List.length_map, List.length_range]; omega, by rw [List.length_map, List.length_range]; omega, rise _, fun z hz => ?_, g2.up (by omega)⟩
      · have sb2 : lift2 dSub M2 (ze (p : Int)) (ze (m : Int)) = some (ze ((p - m : Nat) : Int)) := by
          have : (p : Int) - (m : Int) = ((p - m : Nat) : Int) := by omega
          rw [l_sub, this]
        rw [tr2_eq (M1 := M2) (M2 := M2) (i := ((p - m : Nat) : Int)) (j := (p : Int)) (eOp_eq (M1 := M2) (M2 := M2) (x := ze (p : Int)) (y := ze (m : Int)) rfl rfl sb2) rfl (by omega) (by omega) (by omega) (by omega), range_from]
        unfold rD
        rw [List.map_map, show p - (p - m) = m by omega]
        rfl
      · obtain ⟨i, hi, rfl⟩ := List.mem_map.mp hz
        have := List.mem_range.mp hi
        omega
    · rw [show ((w : Int) == 1) = false from beq_eq_false_iff_ne.mpr h2] at t1
      obtain ⟨xs, M3, e3, xl, xr, xb, g3⟩ := xs_okN g2 (by omega) (p := p) (many := m) (by omega) (by omega)
      exact ⟨xs, M3, mkF_rtL (h.len g3) (sSeq_nx s1 (sSeq_nx s2 (sSeq_nx (sIf_f t0 rfl) (sSeq_nx (sIf_f t1 rfl) (sRet_eq (eCall_eq (M1 := M2) (xs := [.cel 3, ze (p : Int), ze (m : Int)]) rfl e3)))))), by omega, by omega, xr, xb, g3.up (by omega)⟩
end
theorem tup8 {ds : List PyData} {k w : Nat} (h : ∀ d ∈ ds, Sw d k w) (hl : ds.length ≤ 8) : Sw (.tuple ds) (k + 1) (3 + 8 * (w + 2)) := (Sw.tup h).up (Nat.le_refl _) (Nat.add_le_add_left (Nat.mul_le_mul_right _ hl) 3)
theorem lay_sw {p k d w1 w2 w3 : Nat} (e1 : w1 = 3 + 15 * 1923) (e2 : w2 = 3 + 8 * (w1 + 2)) (e3 : w3 = 3 + 8 * (w2 + 2)) (hP : PrP p) (hd : d ≤ 5) (hkd : k ≤ d) {xs : List Int} (xl : xs.length ≤ 8) : Sw (layD p k d xs) 4 (3 + 4 * (w3 + 2)) := by
  have p1 := hP.1
  have p2 := hP.2.1
  have pl : ∀ d, d ≤ 5 → ∀ k, k ≤ d → (plc k d).length ≤ 15 := by decide
  have s15 := pl d hd k hkd
  have row : ∀ zs : List Int, RR.Bd p (plc k d).length zs → Sw (rD zs) 1 w1 := fun zs hz => by
    rw [e1]
    exact Sw.row (n := 15) (fun z hm => by have := hz.2 z hm; omega) (by rw [hz.1]; omega)
  refine Sw.tup (k := 3) (w := w3) fun e he => ?_
  simp only [List.mem_cons, List.not_mem_nil, or_false] at he
  rcases he with rfl | rfl | rfl | rfl
  · exact (Sw.int (by omega)).up (by omega) (by omega)
  · exact (Sw.int (by omega)).up (by omega) (by omega)
  · rw [e3]
    refine tup8 (k := 2) (w := w2) (fun e he => ?_) (by rw [List.length_map]; exact xl)
    obtain ⟨x, _, rfl⟩ := List.mem_map.mp he
    rw [e2]
    refine tup8 (k := 1) (w := w1) (fun e he => ?_) (by rw [List.length_map, List.length_range]; omega)
    obtain ⟨c, _, rfl⟩ := List.mem_map.mp he
    exact row _ (krow_bd (by omega))
  · rw [e3]
    refine tup8 (k := 2) (w := w2) (fun e he => ?_) (by rw [List.length_map]; exact xl)
    obtain ⟨x, _, rfl⟩ := List.mem_map.mp he
    rw [e2]
    refine tup8 (k := 1) (w := w1) (fun e he => ?_) (by rw [List.length_map]; exact xl)
    obtain ⟨c, _, rfl⟩ := List.mem_map.mp he
    exact row _ (tell_bd (by omega))
theorem lay_repr {p k d : Nat} (hP : PrP p) (hd : d ≤ 5) (hkd : k ≤ d) {xs : List Int} (xl : xs.length ≤ 8) (M : Mem) : lift1 dRepr M (.dat (layD p k d xs)) = some (.dat (.str (layD p k d xs).shown)) :=
  swReprB (lay_sw rfl rfl rfl hP hd hkd xl) (by decide) (by decide +kernel)
structure Lay where
  p : Nat
  k : Nat
  d : Nat
  l : Nat
  xs : List Int
def Lay.D (a : Lay) : PyData := .list [shD a.p a.k a.d a.l, rD a.xs, layD a.p a.k a.d a.xs]
structure Lay.Ok (a : Lay) : Prop where
  P : PrP a.p
  m : (a.p : Int) ∈ prl
  k1 : 1 ≤ a.k
  kd : a.k ≤ a.d
  d5 : a.d ≤ 5
  x1 : a.d + 1 ≤ a.xs.length
  x8 : a.xs.length ≤ 8
  xb : ∀ x ∈ a.xs, 0 ≤ x ∧ x < (a.p : Int)
abbrev r44 (v0 v2 : SV) (o3 o4 o5 o6 o7 : Option SV) : Rho := [some v0, some (.cel 3), some v2, o3, o4, o5, o6, o7]
theorem draw44 {v0 : SV} {ds : List PyData} {b : Int} {M : Mem} (o3 o4 o5 : Option SV) (h : Gd [cd ds] b M) (hb : b < 1000000) (hl : ds.length < 100) : ∃ (a : Lay) (q4 q5 : Option SV) (M' : Mem), a.Ok ∧ Lb_law_3_1 (r44 v0 (.cel 4) o3 o4 o5 none none) M = some (.nx (r44 v0 (.cel 4) o3 q4 q5 none none) M') ∧ Gd [cd (ds ++ [a.D])] (b + 100) M' := by
  obtain ⟨pz, k, d, l, M1, e1, hp, hk1, hkd, hd, hl1, g1⟩ := shape_okN h (by omega) (w := 5) (by decide) (by decide)
  obtain ⟨p, rfl, hP, pb1, pb2⟩ := prl_nat hp
  obtain ⟨xs, M2, e2, x1, x8, xr, xb, g2⟩ := houses_ok g1 (by omega) (p := p) (d := d) pb1 (by omega) (by omega) hd
  have nd : xs.Nodup := List.nodup_iff_pairwise_ne.mpr (xr.imp fun h => by omega)
  have e3 := xown_ok (p := p) (l := (l : Int)) (k := k) (d := d) (M := M2) hP hk1 hkd hd xb (by omega) nd
  have el : eLst (aCons (eVar 4) (aCons (eVar 5) (aCons (eCall F_xown (aCons (eVar 4) (aCons (eVar 5) aNil))) aNil))) (r44 v0 (.cel 4) o3 (some (.dat (shD p k d l))) (some (.dat (rD xs))) none none) M2 = some (.dat (.list [shD p k d l, rD xs, layD p k d xs]), M2) :=
    eLst_eq (xs := [.dat (shD p k d l), .dat (rD xs), .dat (layD p k d xs)]) (aCons_eq (M1 := M2) rfl (aCons_eq (M1 := M2) rfl (aCons_eq (M1 := M2) (eCall_eq (M1 := M2) (xs := [.dat (shD p k d l), .dat (rD xs)]) rfl e3) rfl))) rfl (show 3 ≤ 100000 by omega)
  obtain ⟨M3, e4, g3⟩ := grow (rest := []) (i := 2) (ρ := r44 v0 (.cel 4) o3 (some (.dat (shD p k d l))) (some (.dat (rD xs))) none none) g2 rfl el g2 (by omega)
  refine ⟨⟨p, k, d, l, xs⟩, some (.dat (shD p k d l)), some (.dat (rD xs)), M3, ⟨hP, hp, hk1, hkd, hd, x1, x8, xb⟩, ?_, g3.up (by omega)⟩
  refine sSeq_nx (M1 := M1) (ρ1 := r44 v0 (.cel 4) o3 (some (.dat (shD p k d l))) o5 none none) (sAsg_eq (M1 := M1) (eCall_eq (M1 := M) (xs := [.cel 3, ze ((5 : Nat) : Int)]) rfl e1) rfl) ?_
  refine sSeq_nx (M1 := M2) (ρ1 := r44 v0 (.cel 4) o3 (some (.dat (shD p k d l))) (some (.dat (rD xs))) none none) (sAsg_eq (M1 := M2) (eCall_eq (M1 := M1) (xs := [.cel 3, ze (p : Int), ze (d : Int)]) (aCons_eq (x := .cel 3) (M1 := M1) rfl (aCons_eq (M1 := M1) (eOp_eq (M1 := M1) (M2 := M1) (x := .dat (shD p k d l)) (y := ze 0) rfl rfl (l_ixT rfl)) (aCons_eq (M1 := M1) (eOp_eq (M1 := M1) (M2 := M1) (x := .dat (shD p k d l)) (y := ze 2) rfl rfl (l_ixT rfl)) rfl))) e2) rfl) ?_
  exact e4
theorem check44 {v0 v2 : SV} {a : Lay} (h : a.Ok) {M : Mem} (o3 o7 : Option SV) : Lb_law_4_1 (r44 v0 v2 o3 (some (.dat (shD a.p a.k a.d a.l))) (some (.dat (rD a.xs))) (some (.dat (layD a.p a.k a.d a.xs))) o7) M = some (.nx (r44 v0 v2 o3 (some (.dat (shD a.p a.k a.d a.l))) (some (.dat (rD a.xs))) (some (.dat (layD a.p a.k a.d a.xs))) (some (.dat (layD a.p a.k a.d a.xs)))) M) := by
  have e1 := own_laying_ok (p := a.p) (l := (a.l : Int)) (M := M) h.P h.k1 h.kd h.d5 h.xb (by have := h.x8; omega)
  have e2 := is_laying_ok (M := M) h.P h.m h.k1 h.kd h.d5 h.x1 h.x8
  have rp := lay_repr h.P h.d5 h.kd h.x8 M
  generalize layD a.p a.k a.d a.xs = L at *
  generalize L.shown = tx at rp
  refine sSeq_nx (M1 := M) (ρ1 := r44 v0 v2 o3 (some (.dat (shD a.p a.k a.d a.l))) (some (.dat (rD a.xs))) (some (.dat L)) (some (.dat L))) (sAsg_eq (M1 := M) (eCall_eq (M1 := M) (xs := [.dat (shD a.p a.k a.d a.l), .dat (rD a.xs)]) rfl e1) rfl) ?_
  exact sIf_f (M1 := M) (bOr_ff (bVal_eq (eOp_eq (M1 := M) (M2 := M) (x := .dat (.str tx)) (y := .dat (.str tx)) (eCB_eq (M1 := M) (xs := [.dat L]) rfl rp) (eCB_eq (M1 := M) (xs := [.dat L]) rfl rp) l_neSS)) (bVal_eq (eOp_eq (M1 := M) (M2 := M) (x := .dat (.bool true)) (y := .dat (.bool true)) (eCall_eq (M1 := M) (xs := [.dat L]) rfl e2) rfl l_notB))) rfl
theorem law_ok (ns : List Int) (hn : ns.length ≤ 63) : ∃ M, F_law [.dat (.list (ns.map PyData.int))] [] = some (.dat (.bool true), M) := by
  obtain ⟨M0, e0, h0⟩ := start_g ns hn
  generalize hv0 : SV.dat (.list (ns.map PyData.int)) = v0 at e0
  have len0 := gd_len h0
  have g0 := gd_new h0 (some [])
  rw [List.nil_append] at g0
  obtain ⟨ρ', M1, e1, o3, o4, o5, ls, rfl, hls, hl3, g1⟩ := loop_inv (g := gNm 3) (s := Lb_law_3_1) (fun i ρ M => ∃ o3 o4 o5, ∃ ls : List Lay, ρ = r44 v0 (.cel 4) o3 o4 o5 none none ∧ (∀ a ∈ ls, a.Ok) ∧ ls.length = i ∧ Gd [cd (ls.map Lay.D)] (100 * i) M) (rangeD 0 3) 0 (r44 v0 (.cel 4) none none none none none) (M0 ++ [some []]) ⟨none, none, none, [], rfl, (fun _ h => nomatch h), rfl, g0.up (by omega)⟩ (by
    rintro i e ρ M he ⟨o3, o4, o5, ls, rfl, hls, hli, hg⟩
    rw [Nat.zero_add] at *
    have hi : i < 3 := (List.getElem?_eq_some_iff.mp he).1
    obtain ⟨a, q4, q5, M', ha, ee, gg⟩ := draw44 (v0 := v0) (some (.dat e)) o4 o5 hg (by omega) (by rw [List.length_map]; omega)
    refine ⟨_, M, _, M', rfl, ee, _, _, _, ls ++ [a], rfl, fun x hx => ?_, by rw [List.length_append, hli]; rfl, ?_⟩
    · rcases List.mem_append.mp hx with z | z
      · exact hls x z
      · rw [List.mem_singleton] at z; rw [z]; exact ha
    · rw [List.map_append]
      exact gg.up (by push_cast; omega))
  have rl3 : (rangeD 0 3).length = 3 := rfl
  rw [rl3] at hl3 g1
  obtain ⟨f3, g2⟩ := held (rest := []) (i := 2) (ρ := r44 v0 (.cel 4) none none none none none) (M := M0 ++ [some []]) (s := sFor (iR1 (aCons (eC (.int 3)) aNil)) (gNm 3) Lb_law_3_1) (sFor_eq (M1 := M0 ++ [some []]) (iR1_eq (M1 := M0 ++ [some []]) (j := 3) rfl (by decide) (by decide)) e1) g1 rfl
  generalize hM2 : M1.set (([] : Mem).length + 4) none = M2 at f3 g2
  have it : iDat (eOp (lift2 dAdd) (eVar 2) (eSl fSl (eVar 2) oNone (oSome (eC (.int 1))))) (r44 v0 (.dat (.list (ls.map Lay.D))) o3 o4 o5 none none) M2 = some ((ls ++ ls.take 1).map Lay.D, M2) := by
    refine iDat_e (M1 := M2) (d := .list ((ls ++ ls.take 1).map Lay.D)) (eOp_eq (M1 := M2) (M2 := M2) (x := .dat (.list (ls.map Lay.D))) (y := .dat (.list ((ls.take 1).map Lay.D))) rfl (eSl_eq (M1 := M2) (M2 := M2) (M3 := M2) (x := .dat (.list (ls.map Lay.D))) (lo := none) (hi := some ((1 : Nat) : Int)) rfl rfl rfl ?_) ?_) rfl
    · rw [l_slL, cut_take, List.map_take]
    · rw [List.map_append]
      exact l_addL (Nat.ble_eq_true_of_le (by rw [List.length_map, List.length_map, List.length_take]; omega))
  obtain ⟨ρ', M3, e3, q4, q5, q6, q7, rfl, rfl⟩ := loop_inv (g := gTpL [4, 5, 6]) (s := Lb_law_4_1) (fun i ρ M => ∃ q4 q5 q6 q7, ρ = r44 v0 (.dat (.list (ls.map Lay.D))) o3 q4 q5 q6 q7 ∧ M = M2) ((ls ++ ls.take 1).map Lay.D) 0 (r44 v0 (.dat (.list (ls.map Lay.D))) o3 o4 o5 none none) M2 ⟨_, _, _, _, rfl, rfl⟩ (by
    rintro i e ρ M he ⟨q4, q5, q6, q7, rfl, rfl⟩
    rw [List.getElem?_map] at he
    obtain ⟨a, ha, rfl⟩ := Option.map_eq_some_iff.mp he
    have hm := List.mem_of_getElem? ha
    have ok : a.Ok := by
      rcases List.mem_append.mp hm with z | z
      · exact hls a z
      · exact hls a (List.mem_of_mem_take z)
    exact ⟨r44 v0 (.dat (.list (ls.map Lay.D))) o3 (some (.dat (shD a.p a.k a.d a.l))) (some (.dat (rD a.xs))) (some (.dat (layD a.p a.k a.d a.xs))) q7, M, _, M, rfl, check44 ok o3 q7, _, _, _, _, rfl, rfl⟩)
  refine ⟨_, mkF_rt (d := .bool true) (M1 := M3) ?_⟩
  refine sSeq_nx (M1 := M0) (ρ1 := [some v0, some (.cel 3), none, none, none, none, none, none]) (sAsg_eq (eCall_eq (M1 := []) (xs := [v0]) rfl e0) rfl) ?_
  refine sSeq_nx (M1 := M0 ++ [some []]) (ρ1 := r44 v0 (.cel 4) none none none none none) (by
    have : eNew aNil [some v0, some (.cel 3), none, none, none, none, none, none] M0 = some (.cel M0.length, M0 ++ [some []]) := rfl
    rw [len0] at this
    exact sAsg_eq this rfl) ?_
  refine sSeq_nx f3 ?_
  exact sSeq_nx (M1 := M3) (sFor_eq (M1 := M3) it e3) rfl

end Lk44

open PySem PySem.W PyProof.Rows
set_option maxHeartbeats 0 in
theorem PySem.Challenge.cw_toldpieces_k44_own_layings_told_holds : PySem.Challenge.rw_toldpieces_k44_own_layings_told.Holds := by
  w_on; o_law; k_head; (case hw => w_witness2)
  k_fill
  refine Sm.walk_G (l := PySem.Challenge.rw_toldpieces_k44_own_layings_told) (n := 63) (k := 7)
    (x := "_law_script") (f := Lk44.F_law) rfl (by decide) rfl ⟨rfl, by decide, by decide⟩
    (fun w h Y => PySem.W.kIn_of Y) ?F (fun ns hl hb => Lk44.law_ok ns hl)
  case F =>
    intro w mg fa h KX G hmg
    refine' Lk44.all_mk KX G hmg ?a0 ?l0 ?c0 ?k0 ?a1 ?l1 ?c1 ?k1 ?a2 ?l2 ?c2 ?k2 ?a3 ?l3 ?c3 ?k3 ?a4 ?l4 ?c4 ?k4 ?a5 ?l5 ?c5 ?k5 ?a6 ?l6 ?c6 ?k6 ?a7 ?l7 ?c7 ?k7 ?a8 ?l8 ?c8 ?k8 ?a9 ?l9 ?c9 ?k9 ?a10 ?l10 ?c10 ?k10 ?a11 ?l11 ?c11 ?k11 ?a12 ?l12 ?c12 ?k12 ?a13 ?l13 ?c13 ?k13 ?a14 ?l14 ?c14 ?k14 ?a15 ?l15 ?c15 ?k15 ?a16 ?l16 ?c16 ?k16 ?a17 ?l17 ?c17 ?k17 ?a18 ?l18 ?c18 ?k18 ?a19 ?l19 ?c19 ?k19 ?a20 ?l20 ?c20 ?k20 ?a21 ?l21 ?c21 ?k21 ?a22 ?l22 ?c22 ?k22 ?a23 ?l23 ?c23 ?k23 ?a24 ?l24 ?c24 ?k24 ?a25 ?l25 ?c25 ?k25 ?a26 ?l26 ?c26 ?k26 ?a27 ?l27 ?c27 ?k27 ?a28 ?l28 ?c28 ?k28 ?a29 ?l29 ?c29 ?k29 ?a30 ?l30 ?c30 ?k30 ?a31 ?l31 ?c31 ?k31 ?a32 ?l32 ?c32 ?k32 ?z_all ?z_bool ?z_enumerate ?z_int ?z_isinstance ?z_len ?z_list ?z_min ?z_range ?z_repr ?z_sorted ?z_sum ?z_tuple ?z_zip ?y_PRIMES ?q_PRIMES ?qc_PRIMES ?qd_PRIMES ?qs_PRIMES ?qv_PRIMES ?y_MOST_COLUMNS ?y_MOST_HIDDEN ?y_FEWEST_HOUSES ?y_MOST_HOUSES
    (case a0 => k_is); (case l0 => k_is); (case c0 => k_is); (case k0 => k_is); (case a1 => k_is); (case l1 => k_is); (case c1 => k_is); (case k1 => k_is); (case a2 => k_is); (case l2 => k_is); (case c2 => k_is); (case k2 => k_is); (case a3 => k_is); (case l3 => k_is); (case c3 => k_is); (case k3 => k_is); (case a4 => k_is); (case l4 => k_is); (case c4 => k_is); (case k4 => k_is); (case a5 => k_is); (case l5 => k_is); (case c5 => k_is); (case k5 => k_is); (case a6 => k_is); (case l6 => k_is); (case c6 => k_is); (case k6 => k_is); (case a7 => k_is); (case l7 => k_is); (case c7 => k_is); (case k7 => k_is); (case a8 => k_is); (case l8 => k_is); (case c8 => k_is); (case k8 => k_is); (case a9 => k_is); (case l9 => k_is); (case c9 => k_is); (case k9 => k_is); (case a10 => k_is); (case l10 => k_is); (case c10 => k_is); (case k10 => k_is); (case a11 => k_is); (case l11 => k_is); (case c11 => k_is); (case k11 => k_is); (case a12 => k_is); (case l12 => k_is); (case c12 => k_is); (case k12 => k_is); (case a13 => k_is); (case l13 => k_is); (case c13 => k_is); (case k13 => k_is); (case a14 => k_is); (case l14 => k_is); (case c14 => k_is); (case k14 => k_is); (case a15 => k_is); (case l15 => k_is); (case c15 => k_is); (case k15 => k_is); (case a16 => k_is); (case l16 => k_is); (case c16 => k_is); (case k16 => k_is); (case a17 => k_is); (case l17 => k_is); (case c17 => k_is); (case k17 => k_is); (case a18 => k_is); (case l18 => k_is); (case c18 => k_is); (case k18 => k_is); (case a19 => k_is); (case l19 => k_is); (case c19 => k_is); (case k19 => k_is); (case a20 => k_is); (case l20 => k_is); (case c20 => k_is); (case k20 => k_is); (case a21 => k_is); (case l21 => k_is); (case c21 => k_is); (case k21 => k_is); (case a22 => k_is); (case l22 => k_is); (case c22 => k_is); (case k22 => k_is); (case a23 => k_is); (case l23 => k_is); (case c23 => k_is); (case k23 => k_is); (case a24 => k_is); (case l24 => k_is); (case c24 => k_is); (case k24 => k_is); (case a25 => k_is); (case l25 => k_is); (case c25 => k_is); (case k25 => k_is); (case a26 => k_is); (case l26 => k_is); (case c26 => k_is); (case k26 => k_is); (case a27 => k_is); (case l27 => k_is); (case c27 => k_is); (case k27 => k_is); (case a28 => k_is); (case l28 => k_is); (case c28 => k_is); (case k28 => k_is); (case a29 => k_is); (case l29 => k_is); (case c29 => k_is); (case k29 => k_is); (case a30 => k_is); (case l30 => k_is); (case c30 => k_is); (case k30 => k_is); (case a31 => k_is); (case l31 => k_is); (case c31 => k_is); (case k31 => k_is); (case a32 => k_is); (case l32 => k_is); (case c32 => k_is); (case k32 => k_is); (case z_all => k_is); (case z_bool => k_is); (case z_enumerate => k_is); (case z_int => k_is); (case z_isinstance => k_is); (case z_len => k_is); (case z_list => k_is); (case z_min => k_is); (case z_range => k_is); (case z_repr => k_is); (case z_sorted => k_is); (case z_sum => k_is); (case z_tuple => k_is); (case z_zip => k_is); (case y_PRIMES => k_is); (case q_PRIMES => k_is); (case qc_PRIMES => rfl); (case qd_PRIMES => rfl); (case qs_PRIMES => decide); (case qv_PRIMES => repeat (first | exact .nil | refine .cons ⟨_, rfl⟩ ?_)); (case y_MOST_COLUMNS => k_is); (case y_MOST_HIDDEN => k_is); (case y_FEWEST_HOUSES => k_is); (case y_MOST_HOUSES => k_is)
