import PyProof.Rows.All
import Wide.All
import OpenK.AllK
import Wide.FinOn
import HandS.ForMost
import HandS.ForExc
import HandS.Wide
import HandS.IsInst
import HandS.Zip
import HandS.Walk
import PyProof.ReprRoads
import HandS.Style
import PyProof.ReprBulk
import HandS.RaiseMore
import HandS.TryOnly
import KE.KDictZip
import KE.KTurns
import HandS.ListItems
import PySem.Challenge.RW_dialpack_k10_effects_of_large_numbers
set_option Elab.async false
set_option linter.all false
set_option maxRecDepth 100000
set_option maxHeartbeats 4000000
namespace Dl
open PySem PySem.Spec PyProof.Rows L2
abbrev Slots := L2.St

/-! ## what a slot is known to hold -/
inductive Rv where
  | any
  | mu
  | d (x : PyData)
  | cell (a : Addr)
  | tup (xs : List Rv)
  | raw (v : V)

abbrev Mem := List (Addr × (List Rv → Prop))
abbrev Frg := PySem.W.Frag
/-- just this content -/
def Is (rs : List Rv) : List Rv → Prop := fun x => x = rs

mutual
inductive RvOk (K : Frg) (B : Hp) : V → Rv → Prop
  | any (v : V) : RvOk K B v .any
  | mu (v : V) : RvOk K B v .mu
  | d {v : V} {x : PyData} : Dp K B v x → RvOk K B v (.d x)
  | cell (a : Addr) : RvOk K B (.ref a) (.cell a)
  | raw (v : V) : RvOk K B v (.raw v)
  | tup {a : Addr} {xs : List V} {rs : List Rv} : SqT K B a xs → RvAll K B xs rs → RvOk K B (.ref a) (.tup rs)
inductive RvAll (K : Frg) (B : Hp) : List V → List Rv → Prop
  | nil : RvAll K B [] []
  | cons {v : V} {vs : List V} {r : Rv} {rs : List Rv} : RvOk K B v r → RvAll K B vs rs → RvAll K B (v :: vs) (r :: rs)
end

theorem sq_mono {K : Frg} {H H' : Hp} (e : Same H H') {a : Addr} {xs : List V} (h : SqT K H a xs) : SqT K H' a xs := by
  rcases h with (h | ⟨o, h⟩) | h
  · exact .inl (.inl (e _ _ h))
  · exact .inl (.inr ⟨o, e _ _ h⟩)
  · exact .inr h
mutual
theorem dp_mono {K : Frg} {H H' : Hp} (e : Same H H') : ∀ {v : V} (d : PyData), Dp K H v d → Dp K H' v d
  | _, _, .non => .non
  | _, _, .bl b => .bl b
  | _, _, .int i => .int i
  | _, _, .str x => .str x
  | _, _, .lst h a => .lst (e.seq h) (dpAll_mono e _ a)
  | _, _, .tup h a => .tup (sq_mono e h) (dpAll_mono e _ a)
theorem dpAll_mono {K : Frg} {H H' : Hp} (e : Same H H') : ∀ {vs : List V} (ds : List PyData), DpAll K H vs ds → DpAll K H' vs ds
  | _, _, .nil => .nil
  | _, _, .cons h a => .cons (dp_mono e _ h) (dpAll_mono e _ a)
end
mutual
theorem rv_mono {K : Frg} {H H' : Hp} (e : Same H H') : ∀ {v : V} {r : Rv}, RvOk K H v r → RvOk K H' v r
  | _, _, .any v => .any v
  | _, _, .mu v => .mu v
  | _, _, .d h => .d (dp_mono e _ h)
  | _, _, .cell a => .cell a
  | _, _, .raw v => .raw v
  | _, _, .tup h a => .tup (sq_mono e h) (rvAll_mono e a)
theorem rvAll_mono {K : Frg} {H H' : Hp} (e : Same H H') : ∀ {vs : List V} {rs : List Rv}, RvAll K H vs rs → RvAll K H' vs rs
  | _, _, .nil => .nil
  | _, _, .cons h a => .cons (rv_mono e h) (rvAll_mono e a)
end
theorem RvAll.length {K : Frg} {B : Hp} : ∀ {vs : List V} {rs : List Rv}, RvAll K B vs rs → vs.length = rs.length
  | _, _, .nil => rfl
  | _, _, .cons _ a => by simp [RvAll.length a]
theorem DpAll.len {K : Frg} {B : Hp} : ∀ {vs : List V} {rs : List PyData}, DpAll K B vs rs → vs.length = rs.length
  | _, _, .nil => rfl
  | _, _, .cons _ a => by simp [DpAll.len a]
theorem RvAll.get {K : Frg} {B : Hp} : ∀ {vs : List V} {rs : List Rv} (i : Nat) (r : Rv), RvAll K B vs rs → rs[i]? = some r → ∃ v, vs[i]? = some v ∧ RvOk K B v r
  | _, _, i, _, .nil, h => by simp at h
  | _, _, 0, _, .cons h _, e => by simp at e; subst e; exact ⟨_, rfl, h⟩
  | _, _, i + 1, r, .cons _ a, e => by
    obtain ⟨v, h1, h2⟩ := RvAll.get i r a (by simpa using e)
    exact ⟨v, by simpa using h1, h2⟩
theorem DpAll.get {K : Frg} {B : Hp} : ∀ {vs : List V} {rs : List PyData} (i : Nat) (r : PyData), DpAll K B vs rs → rs[i]? = some r → ∃ v, vs[i]? = some v ∧ Dp K B v r
  | _, _, i, _, .nil, h => by simp at h
  | _, _, 0, _, .cons h _, e => by simp at e; subst e; exact ⟨_, rfl, h⟩
  | _, _, i + 1, r, .cons _ a, e => by
    obtain ⟨v, h1, h2⟩ := DpAll.get i r a (by simpa using e)
    exact ⟨v, by simpa using h1, h2⟩
theorem RvAll.app {K : Frg} {B : Hp} : ∀ {vs ws : List V} {rs qs : List Rv}, RvAll K B vs rs → RvAll K B ws qs → RvAll K B (vs ++ ws) (rs ++ qs)
  | _, _, _, _, .nil, h => h
  | _, _, _, _, .cons h a, b => .cons h (RvAll.app a b)
theorem DpAll.app {K : Frg} {B : Hp} : ∀ {vs ws : List V} {rs qs : List PyData}, DpAll K B vs rs → DpAll K B ws qs → DpAll K B (vs ++ ws) (rs ++ qs)
  | _, _, _, _, .nil, h => h
  | _, _, _, _, .cons h a, b => .cons h (DpAll.app a b)
/-- data only -/
theorem RvAll.data {K : Frg} {B : Hp} : ∀ {vs : List V} {ds : List PyData}, RvAll K B vs (ds.map Rv.d) → DpAll K B vs ds
  | _, [], h => by cases h; exact .nil
  | _, d :: ds, h => by
    cases h with
    | cons h1 h2 =>
      cases h1 with
      | d h1 => exact .cons h1 (RvAll.data h2)
theorem RvAll.ofData {K : Frg} {B : Hp} : ∀ {vs : List V} {ds : List PyData}, DpAll K B vs ds → RvAll K B vs (ds.map Rv.d)
  | _, _, .nil => .nil
  | _, _, .cons h a => .cons (.d h) (RvAll.ofData a)

/-! ## slots -/
inductive SlotOk (K : Frg) (B : Hp) : Option V → Rv → Prop
  | none1 : SlotOk K B none .any
  | none2 : SlotOk K B none .mu
  | some {v : V} {r : Rv} : RvOk K B v r → SlotOk K B (some v) r
abbrev EnvOk (K : Frg) (B : Hp) : Slots → List Rv → Prop := Paired (SlotOk K B)
theorem env_mono {K : Frg} {H H' : Hp} (e : Same H H') {σ : Slots} {ρ : List Rv} (h : EnvOk K H σ ρ) : EnvOk K H' σ ρ :=
  Paired.mapP h fun o r q => by
    cases q with
    | none1 => exact .none1
    | none2 => exact .none2
    | some q => exact .some (rv_mono e q)
def Rv.isAny : Rv → Bool
  | .any => true
  | .mu => true
  | _ => false
theorem env_get {K : Frg} {B : Hp} : ∀ {σ : Slots} {ρ : List Rv} (i : Nat) {r : Rv}, EnvOk K B σ ρ → ρ[i]? = some r → r.isAny = false → ∃ v, σ[i]? = some (some v) ∧ RvOk K B v r
  | _, _, i, _, .nil, h, _ => by simp at h
  | _, _, 0, _, .cons h _, e, n => by
    simp at e
    subst e
    cases h with
    | none1 => cases n
    | none2 => cases n
    | some h => exact ⟨_, rfl, h⟩
  | _, _, i + 1, r, .cons _ a, e, n => by
    obtain ⟨v, h1, h2⟩ := env_get i (r := r) a (by simpa using e) n
    exact ⟨v, by simpa using h1, h2⟩
theorem env_set {K : Frg} {B : Hp} {o : Option V} {r : Rv} (q : SlotOk K B o r) : ∀ {σ : Slots} {ρ : List Rv} (i : Nat), EnvOk K B σ ρ → EnvOk K B (σ.set i o) (ρ.set i r)
  | _, _, _, .nil => .nil
  | _, _, 0, .cons _ t => .cons q t
  | _, _, i + 1, .cons h t => .cons h (env_set q i t)
theorem env_len {K : Frg} {B : Hp} {σ : Slots} {ρ : List Rv} (h : EnvOk K B σ ρ) : σ.length = ρ.length := Paired.length h
def start (n : Nat) (rs : List Rv) (mus : List Rv) : List Rv := rs ++ mus

/-! ## the heap: what is known for good (B), what may change (M), the rest -/
structure Ok (K : Frg) (B H : Hp) (M : Mem) : Prop where
  ext : Same B H
  mem : ∀ p ∈ M, B p.1 = none ∧ ∃ xs rs, H p.1 = some (.lst xs) ∧ RvAll K B xs rs ∧ p.2 rs
  nd : (M.map (·.1)).Nodup
structure Fr (B H : Hp) (M : Mem) (B' H' : Hp) (M' : Mem) : Prop where
  ex : Same B B'
  out : ∀ a o, H a = some o → B a = none → (∀ p ∈ M, p.1 ≠ a) → H' a = some o ∧ B' a = none
  new : ∀ p ∈ M', (∃ q ∈ M, q.1 = p.1) ∨ H p.1 = none
  grow : ∀ a, H' a = none → H a = none
theorem Fr.refl {B H : Hp} {M : Mem} : Fr B H M B H M := ⟨Same.refl _, fun _ _ h b _ => ⟨h, b⟩, fun p hp => .inl ⟨p, hp, rfl⟩, fun _ h => h⟩
theorem Fr.trans {B H B1 H1 B2 H2 : Hp} {M M1 M2 : Mem} (a : Fr B H M B1 H1 M1) (b : Fr B1 H1 M1 B2 H2 M2) : Fr B H M B2 H2 M2 where
  ex := a.ex.trans b.ex
  out := fun x o h hb hm => by
    obtain ⟨h1, b1⟩ := a.out x o h hb hm
    refine b.out x o h1 b1 fun p hp e => ?_
    rcases a.new p hp with ⟨q, hq, e2⟩ | e2
    · exact hm q hq (e2.trans e)
    · rw [e, h] at e2; cases e2
  new := fun p hp => by
    rcases b.new p hp with ⟨q, hq, e⟩ | e
    · rcases a.new q hq with ⟨q2, h2, e2⟩ | e2
      · exact .inl ⟨q2, h2, e2.trans e⟩
      · exact .inr (by rw [← e]; exact e2)
    · exact .inr (a.grow _ e)
  grow := fun x h => a.grow x (b.grow x h)

/-! ## exceptions in the air -/
structure EV where
  cls : Value
  fs : Option (List (Str × PyData))
inductive EvOk (K : Frg) (B H : Hp) (x : EV) : Value → Option Addr → Prop
  | none : x.fs = none → EvOk K B H x x.cls none
  | some {d : Addr} {fs : List (Str × V)} {ds : List (Str × PyData)} : x.fs = some ds → H d = some (.xd fs) → fs.map (·.1) = ds.map (·.1) → DpAll K B (fs.map (·.2)) (ds.map (·.2)) → EvOk K B H x x.cls (some d)
/-- the wish about exceptions: what they are, the slots, the memory -/
abbrev Xi := EV → List Rv → Mem → Prop
def X0 : Xi := fun _ _ _ => False
def PostX (K : Frg) (B H : Hp) (M : Mem) (Ξ : Xi) : WX := fun cls d σ' H' =>
  ∃ B' M' ρ' x, Ok K B' H' M' ∧ Fr B H M B' H' M' ∧ EnvOk K B' σ' ρ' ∧ EvOk K B' H' x cls d ∧ Ξ x ρ' M'
theorem postX_after {K : Frg} {B H B1 H1 : Hp} {M M1 : Mem} {Ξ : Xi} (f : Fr B H M B1 H1 M1) : ∀ c d σ H', PostX K B1 H1 M1 Ξ c d σ H' → PostX K B H M Ξ c d σ H' :=
  fun c d σ H' ⟨B', M', ρ', x, o, g, e, k, q⟩ => ⟨B', M', ρ', x, o, f.trans g, e, k, q⟩

/-! ## judgements -/
abbrev Pst := Rv → Mem → Prop
def PostE (K : Frg) (B H : Hp) (M : Mem) (Φ : Pst) : VK := fun v H' => ∃ B' M' r, Ok K B' H' M' ∧ Fr B H M B' H' M' ∧ RvOk K B' v r ∧ Φ r M'
theorem postE_after {K : Frg} {B H B1 H1 : Hp} {M M1 : Mem} {Φ : Pst} (f : Fr B H M B1 H1 M1) {v : V} {H' : Hp} : PostE K B1 H1 M1 Φ v H' → PostE K B H M Φ v H' :=
  fun ⟨B', M', r, o, g, e, q⟩ => ⟨B', M', r, o, f.trans g, e, q⟩
theorem postE_mono {K : Frg} {B H : Hp} {M : Mem} {Φ Φ' : Pst} (h : ∀ r M', Φ r M' → Φ' r M') {v : V} {H' : Hp} : PostE K B H M Φ v H' → PostE K B H M Φ' v H' :=
  fun ⟨B', M', r, o, g, e, q⟩ => ⟨B', M', r, o, g, e, h _ _ q⟩
theorem post_same {K : Frg} {B H : Hp} {M : Mem} {Φ : Pst} {v : V} {r : Rv} (ok : Ok K B H M) (hr : RvOk K B v r) (h : Φ r M) : PostE K B H M Φ v H := ⟨B, M, r, ok, .refl, hr, h⟩
theorem sub_none {B H : Hp} (e : Same B H) {p : Addr} (h : H p = none) : B p = none := e.free h
theorem same_new {H : Hp} {p : Addr} {o : HO} (h : H p = none) : Same H (upd H p o) := fun a u e => by
  rw [upd_ne (ne_of_none e h)]
  exact e
/-- a new object that will not change -/
theorem ok_frz {K : Frg} {B H : Hp} {M : Mem} {p : Addr} {o : HO} (ok : Ok K B H M) (hp : H p = none) : Ok K (upd B p o) (upd H p o) M ∧ Fr B H M (upd B p o) (upd H p o) M := by
  have bp := sub_none ok.ext hp
  have ne : ∀ q ∈ M, q.1 ≠ p := fun q hq e => by
    obtain ⟨_, xs, rs, h, _⟩ := ok.mem q hq
    rw [e, hp] at h; cases h
  refine ⟨⟨fun a u e => ?_, fun q hq => ?_, ok.nd⟩, ⟨same_new bp, fun a u h b _ => ?_, fun q hq => .inl ⟨q, hq, rfl⟩, fun a h => ?_⟩⟩
  · by_cases ha : a = p
    · subst ha; rw [upd_same] at e ⊢; exact e
    · rw [upd_ne ha] at e ⊢; exact ok.ext a u e
  · obtain ⟨h1, xs, rs, h2, h3, h4⟩ := ok.mem q hq
    exact ⟨by rw [upd_ne (ne q hq)]; exact h1, xs, rs, by rw [upd_ne (ne q hq)]; exact h2, rvAll_mono (same_new bp) h3, h4⟩
  · have ha := ne_of_none h hp
    exact ⟨by rw [upd_ne ha]; exact h, by rw [upd_ne ha]; exact b⟩
  · by_cases ha : a = p
    · subst ha; exact hp
    · rw [upd_ne ha] at h; exact h
/-- a new list that may change -/
theorem ok_own {K : Frg} {B H : Hp} {M : Mem} {p : Addr} {xs : List V} {rs : List Rv} {P : List Rv → Prop} (ok : Ok K B H M) (hp : H p = none) (hx : RvAll K B xs rs) (hP : P rs) :
    Ok K B (upd H p (.lst xs)) ((p, P) :: M) ∧ Fr B H M B (upd H p (.lst xs)) ((p, P) :: M) := by
  have bp := sub_none ok.ext hp
  have ne : ∀ q ∈ M, q.1 ≠ p := fun q hq e => by
    obtain ⟨_, xs, rs, h, _⟩ := ok.mem q hq
    rw [e, hp] at h; cases h
  refine ⟨⟨fun a u e => ?_, fun q hq => ?_, ?_⟩, ⟨Same.refl _, fun a u h b _ => ?_, fun q hq => ?_, fun a h => ?_⟩⟩
  · have ha : a ≠ p := ne_of_none e bp
    rw [upd_ne ha]; exact ok.ext a u e
  · rcases List.mem_cons.mp hq with rfl | hq
    · exact ⟨bp, xs, rs, upd_same, hx, hP⟩
    · obtain ⟨h1, xs, rs, h2, h3, h4⟩ := ok.mem q hq
      exact ⟨h1, xs, rs, by rw [upd_ne (ne q hq)]; exact h2, h3, h4⟩
  · rw [List.map_cons, List.nodup_cons]
    refine ⟨fun hm => ?_, ok.nd⟩
    obtain ⟨q, hq, e⟩ := List.mem_map.mp hm
    exact ne q hq e
  · have ha := ne_of_none h hp
    exact ⟨by rw [upd_ne ha]; exact h, b⟩
  · rcases List.mem_cons.mp hq with rfl | hq
    · exact .inr hp
    · exact .inl ⟨q, hq, rfl⟩
  · by_cases ha : a = p
    · subst ha; exact hp
    · rw [upd_ne ha] at h; exact h
/-- a list that may change is changed -/
theorem ok_mut {K : Frg} {B H : Hp} {M1 M2 : Mem} {a : Addr} {P P' : List Rv → Prop} {xs : List V} {rs : List Rv} (ok : Ok K B H (M1 ++ (a, P) :: M2)) (hx : RvAll K B xs rs) (hP : P' rs) :
    Ok K B (upd H a (.lst xs)) (M1 ++ (a, P') :: M2) ∧ Fr B H (M1 ++ (a, P) :: M2) B (upd H a (.lst xs)) (M1 ++ (a, P') :: M2) := by
  have nd := ok.nd
  rw [List.map_append, List.map_cons] at nd
  have n1 := List.nodup_append.mp nd
  have n2 := List.nodup_cons.mp n1.2.1
  have na1 : ∀ q ∈ M1, q.1 ≠ a := fun q hq e => n1.2.2 q.1 (List.mem_map.mpr ⟨q, hq, rfl⟩) a (by simp) e
  have na2 : ∀ q ∈ M2, q.1 ≠ a := fun q hq e => n2.1 (List.mem_map.mpr ⟨q, hq, e⟩)
  have hm : (a, P) ∈ M1 ++ (a, P) :: M2 := by simp
  obtain ⟨ba, xs0, rs0, ha, _, _⟩ := ok.mem _ hm
  have keep : ∀ q, (q ∈ M1 ∨ q ∈ M2) → q.1 ≠ a ∧ q ∈ M1 ++ (a, P) :: M2 := fun q hq => by
    rcases hq with hq | hq
    · exact ⟨na1 q hq, by simp [hq]⟩
    · exact ⟨na2 q hq, by simp [hq]⟩
  refine ⟨⟨fun x u e => ?_, fun q hq => ?_, ?_⟩, ⟨Same.refl _, fun x u h b hn => ?_, fun q hq => ?_, fun x h => ?_⟩⟩
  · have hx : x ≠ a := ne_of_none e ba
    rw [upd_ne hx]; exact ok.ext x u e
  · have hc : q = (a, P') ∨ (q ∈ M1 ∨ q ∈ M2) := by
      rcases List.mem_append.mp hq with h | h
      · exact .inr (.inl h)
      · rcases List.mem_cons.mp h with h | h
        · exact .inl h
        · exact .inr (.inr h)
    rcases hc with rfl | hc
    · exact ⟨ba, xs, rs, upd_same, hx, hP⟩
    · obtain ⟨k1, k2⟩ := keep q hc
      obtain ⟨h1, xs, rs, h2, h3, h4⟩ := ok.mem q k2
      exact ⟨h1, xs, rs, by rw [upd_ne k1]; exact h2, h3, h4⟩
  · rw [List.map_append, List.map_cons]; exact nd
  · have hx : x ≠ a := fun e => hn _ hm e.symm
    exact ⟨by rw [upd_ne hx]; exact h, b⟩
  · rcases List.mem_append.mp hq with h | h
    · exact .inl ⟨q, by simp [h], rfl⟩
    · rcases List.mem_cons.mp h with h | h
      · exact .inl ⟨_, hm, by rw [h]⟩
      · exact .inl ⟨q, by simp [h], rfl⟩
  · by_cases ha' : x = a
    · subst ha'; rw [upd_same] at h; cases h
    · rw [upd_ne ha'] at h; exact h
/-- a list that will not change any more -/
theorem ok_freeze {K : Frg} {B H : Hp} {M1 M2 : Mem} {a : Addr} {P : List Rv → Prop} (ok : Ok K B H (M1 ++ (a, P) :: M2)) :
    ∃ xs rs, RvAll K B xs rs ∧ P rs ∧ Ok K (upd B a (.lst xs)) H (M1 ++ M2) ∧ Fr B H (M1 ++ (a, P) :: M2) (upd B a (.lst xs)) H (M1 ++ M2) := by
  have nd := ok.nd
  rw [List.map_append, List.map_cons] at nd
  have n1 := List.nodup_append.mp nd
  have n2 := List.nodup_cons.mp n1.2.1
  have na1 : ∀ q ∈ M1, q.1 ≠ a := fun q hq e => n1.2.2 q.1 (List.mem_map.mpr ⟨q, hq, rfl⟩) a (by simp) e
  have na2 : ∀ q ∈ M2, q.1 ≠ a := fun q hq e => n2.1 (List.mem_map.mpr ⟨q, hq, e⟩)
  have hm : (a, P) ∈ M1 ++ (a, P) :: M2 := by simp
  obtain ⟨ba, xs, rs, ha, hx, hP⟩ := ok.mem _ hm
  refine ⟨xs, rs, hx, hP, ⟨fun x u e => ?_, fun q hq => ?_, ?_⟩, ⟨same_new ba, fun x u h b hn => ?_, fun q hq => ?_, fun x h => h⟩⟩
  · by_cases e2 : x = a
    · subst e2; rw [upd_same] at e; cases e; exact ha
    · rw [upd_ne e2] at e; exact ok.ext x u e
  · have hc : q.1 ≠ a ∧ q ∈ M1 ++ (a, P) :: M2 := by
      rcases List.mem_append.mp hq with h | h
      · exact ⟨na1 q h, by simp [h]⟩
      · exact ⟨na2 q h, by simp [h]⟩
    obtain ⟨h1, xs', rs', h2, h3, h4⟩ := ok.mem q hc.2
    exact ⟨by rw [upd_ne hc.1]; exact h1, xs', rs', h2, rvAll_mono (same_new ba) h3, h4⟩
  · rw [List.map_append]
    exact nd.sublist (List.Sublist.append_left (List.sublist_cons_self _ _) _)
  · have hx : x ≠ a := fun e => hn _ hm e.symm
    exact ⟨h, by rw [upd_ne hx]; exact b⟩
  · rcases List.mem_append.mp hq with h | h
    · exact .inl ⟨q, by simp [h], rfl⟩
    · exact .inl ⟨q, by simp [h], rfl⟩
theorem post_frz {K : Frg} {B H : Hp} {M : Mem} {Φ : Pst} {p : Addr} {o : HO} {r : Rv} (ok : Ok K B H M) (hp : H p = none) (hr : RvOk K (upd B p o) (.ref p) r) (h : Φ r M) : PostE K B H M Φ (.ref p) (upd H p o) :=
  ⟨_, M, r, (ok_frz ok hp).1, (ok_frz ok hp).2, hr, h⟩
theorem post_own {K : Frg} {B H : Hp} {M : Mem} {Φ : Pst} {p : Addr} {xs : List V} {rs : List Rv} {P : List Rv → Prop} (ok : Ok K B H M) (hp : H p = none) (hx : RvAll K B xs rs) (hP : P rs) (h : Φ (.cell p) ((p, P) :: M)) :
    PostE K B H M Φ (.ref p) (upd H p (.lst xs)) :=
  ⟨_, _, _, (ok_own ok hp hx hP).1, (ok_own ok hp hx hP).2, .cell p, h⟩

section
variable (X : Cx)
/-- what an expression does, by its own run -/
def eS (e : Expr) : TE := fun σ H Q => ∀ (pins : List (Addr × Obj)) (s : Shared), Inv X pins σ H s → wpAny (model X.prog X.w) X.A (eval e X.env) (EP X pins σ Q) X.xe s
def tS (e : Expr) : TT := fun σ H Q => ∀ (pins : List (Addr × Obj)) (s : Shared), Inv X pins σ H s → wpAny (model X.prog X.w) X.A (isTrue e X.env (eval e X.env)) (TP X pins σ Q) X.xe s
def wS (e : Expr) : TT := fun σ H Q => ∀ (whole : Sem Value) (pins : List (Addr × Obj)) (s : Shared), Inv X pins σ H s → wpAny (model X.prog X.w) X.A (isTrue e X.env whole) (TP X pins σ Q) X.xe s
def aS (es : List Expr) : TA := fun σ H Q => ∀ (pos : Pos) (pins : List (Addr × Obj)) (s : Shared), Inv X pins σ H s → wpAny (model X.prog X.w) X.A (spliced (backTo pos (starEach es X.env))) (AP X pins σ Q) X.xe s
def sS (st : Stmt) : TS := fun D σ H => ∀ (pins : List (Addr × Obj)) (s : Shared), Inv X pins σ H s → wpAny (model X.prog X.w) X.A (exec st X.env) (SP X pins D) X.xe s
def ssS (st : List Stmt) : TS := fun D σ H => ∀ (pins : List (Addr × Obj)) (s : Shared), Inv X pins σ H s → wpAny (model X.prog X.w) X.A (execs st X.env) (SP X pins D) X.xe s
def oS (f : Value → Value → Sem Value) : R2 := fun x y H Q => ∀ (pins : List (Addr × Obj)) (s : Shared) (σ : Slots) (v u : Value), Inv X pins σ H s → RelV x v → RelV y u → wpAny (model X.prog X.w) X.A (f v u) (EP X pins σ Q) X.xe s
def uS (f : Value → Sem Value) : V → Hp → VK → Prop := fun x H Q => ∀ (pins : List (Addr × Obj)) (s : Shared) (σ : Slots) (v : Value), Inv X pins σ H s → RelV x v → wpAny (model X.prog X.w) X.A (f v) (EP X pins σ Q) X.xe s
def cS (f : Value) : List V → Hp → VK → Prop := fun xs H Q => ∀ (pins : List (Addr × Obj)) (s : Shared) (σ : Slots) (us : List Value), Inv X pins σ H s → Vals xs us → wpAny (model X.prog X.w) X.A (call f us) (EP X pins σ Q) X.xe s
variable {X}
theorem pe_S {e : Expr} : PE X e (eS X e) := ⟨fun pins s _ _ _ I h => h pins s I⟩
theorem pt_S {e : Expr} : PT X e (tS X e) := ⟨fun pins s _ _ _ I h => h pins s I⟩
theorem pw_S {e : Expr} : PW X e (wS X e) := ⟨fun wh pins s _ _ _ I h => h wh pins s I⟩
theorem pa_S {e : List Expr} : PA X e (aS X e) := ⟨fun pos pins s _ _ _ I h => h pos pins s I⟩
theorem ps_S {e : Stmt} : PS X e (sS X e) := ⟨fun pins s _ _ _ I h => h pins s I⟩
theorem pss_S {e : List Stmt} : PSs X e (ssS X e) := ⟨fun pins s _ _ _ I h => h pins s I⟩
theorem op_S {f : Value → Value → Sem Value} : OpR X f (oS X f) := fun pins s σ _ _ _ v u _ I r1 r2 h => h pins s σ v u I r1 r2
theorem un_S {f : Value → Sem Value} : UnR X f (uS X f) := fun pins s σ _ _ v _ I r1 h => h pins s σ v I r1
theorem call_S {f : Value} : CallR X f (cS X f) := fun pins s σ _ _ us _ I r1 h => h pins s σ us I r1
theorem eS_of {e : Expr} {t : TE} (h : PE X e t) {σ : Slots} {H : Hp} {Q : VK} (q : t σ H Q) : eS X e σ H Q := fun pins s I => h.run pins s σ H Q I q
theorem tS_of {e : Expr} {t : TT} (h : PT X e t) {σ : Slots} {H : Hp} {Q : Bool → Hp → Prop} (q : t σ H Q) : tS X e σ H Q := fun pins s I => h.run pins s σ H Q I q
theorem wS_of {e : Expr} {t : TT} (h : PW X e t) {σ : Slots} {H : Hp} {Q : Bool → Hp → Prop} (q : t σ H Q) : wS X e σ H Q := fun wh pins s I => h.run wh pins s σ H Q I q
theorem aS_of {e : List Expr} {t : TA} (h : PA X e t) {σ : Slots} {H : Hp} {Q : List V → Hp → Prop} (q : t σ H Q) : aS X e σ H Q := fun pos pins s I => h.run pos pins s σ H Q I q
theorem sS_of {e : Stmt} {t : TS} (h : PS X e t) {σ : Slots} {H : Hp} {D : Ends} (q : t D σ H) : sS X e D σ H := fun pins s I => h.run pins s σ H D I q
theorem ssS_of {e : List Stmt} {t : TS} (h : PSs X e t) {σ : Slots} {H : Hp} {D : Ends} (q : t D σ H) : ssS X e D σ H := fun pins s I => h.run pins s σ H D I q
theorem oS_of {f : Value → Value → Sem Value} {r : R2} (h : OpR X f r) {x y : V} {H : Hp} {Q : VK} (q : r x y H Q) : oS X f x y H Q := fun pins s σ v u I r1 r2 => h pins s σ H x y v u Q I r1 r2 q
theorem uS_of {f : Value → Sem Value} {r : V → Hp → VK → Prop} (h : UnR X f r) {x : V} {H : Hp} {Q : VK} (q : r x H Q) : uS X f x H Q := fun pins s σ v I r1 => h pins s σ H x v Q I r1 q
theorem cS_of {f : Value} {r : List V → Hp → VK → Prop} (h : CallR X f r) {x : List V} {H : Hp} {Q : VK} (q : r x H Q) : cS X f x H Q := fun pins s σ v I r1 => h pins s σ H x v Q I r1 q
theorem eS_mono {e : Expr} {σ : Slots} {H : Hp} {Q Q' : VK} (h : eS X e σ H Q) (k : ∀ v H', Q v H' → Q' v H') : eS X e σ H Q' := fun pins s I =>
  thn (h pins s I) fun u s' ⟨v, H', I', r, q⟩ => ⟨v, H', I', r, k _ _ q⟩
theorem tS_mono {e : Expr} {σ : Slots} {H : Hp} {Q Q' : Bool → Hp → Prop} (h : tS X e σ H Q) (k : ∀ v H', Q v H' → Q' v H') : tS X e σ H Q' := fun pins s I =>
  thn (h pins s I) fun u s' ⟨H', I', q⟩ => ⟨H', I', k _ _ q⟩
theorem wS_mono {e : Expr} {σ : Slots} {H : Hp} {Q Q' : Bool → Hp → Prop} (h : wS X e σ H Q) (k : ∀ v H', Q v H' → Q' v H') : wS X e σ H Q' := fun wh pins s I =>
  thn (h wh pins s I) fun u s' ⟨H', I', q⟩ => ⟨H', I', k _ _ q⟩
theorem aS_mono {e : List Expr} {σ : Slots} {H : Hp} {Q Q' : List V → Hp → Prop} (h : aS X e σ H Q) (k : ∀ v H', Q v H' → Q' v H') : aS X e σ H Q' := fun pos pins s I =>
  thn (h pos pins s I) fun u s' ⟨v, H', I', r, q⟩ => ⟨v, H', I', r, k _ _ q⟩
theorem oS_mono {f : Value → Value → Sem Value} {x y : V} {H : Hp} {Q Q' : VK} (h : oS X f x y H Q) (k : ∀ v H', Q v H' → Q' v H') : oS X f x y H Q' := fun pins s σ v u I r1 r2 =>
  thn (h pins s σ v u I r1 r2) fun u s' ⟨v, H', I', r, q⟩ => ⟨v, H', I', r, k _ _ q⟩
theorem cS_mono {f : Value} {x : List V} {H : Hp} {Q Q' : VK} (h : cS X f x H Q) (k : ∀ v H', Q v H' → Q' v H') : cS X f x H Q' := fun pins s σ us I r1 =>
  thn (h pins s σ us I r1) fun u s' ⟨v, H', I', r, q⟩ => ⟨v, H', I', r, k _ _ q⟩
end

/-- an expression, from slots ρ and memory M, has Φ of its value (and Ξ of what it raises) -/
def GE (X : Cx) (e : Expr) (ρ : List Rv) (M : Mem) (Φ : Pst) (Ξ : Xi) : Prop :=
  ∀ B H σ, Ok X.K B H M → EnvOk X.K B σ ρ → Takes X (PostX X.K B H M Ξ) → eS X e σ H (PostE X.K B H M Φ)
def PostT (K : Frg) (B H : Hp) (M : Mem) (Φ : Bool → Mem → Prop) : Bool → Hp → Prop := fun b H' => ∃ B' M', Ok K B' H' M' ∧ Fr B H M B' H' M' ∧ Φ b M'
def GT (X : Cx) (e : Expr) (ρ : List Rv) (M : Mem) (Φ : Bool → Mem → Prop) (Ξ : Xi) : Prop :=
  ∀ B H σ, Ok X.K B H M → EnvOk X.K B σ ρ → Takes X (PostX X.K B H M Ξ) → tS X e σ H (PostT X.K B H M Φ)
def GW (X : Cx) (e : Expr) (ρ : List Rv) (M : Mem) (Φ : Bool → Mem → Prop) (Ξ : Xi) : Prop :=
  ∀ B H σ, Ok X.K B H M → EnvOk X.K B σ ρ → Takes X (PostX X.K B H M Ξ) → wS X e σ H (PostT X.K B H M Φ)
def PostA (K : Frg) (B H : Hp) (M : Mem) (Φ : List Rv → Mem → Prop) : List V → Hp → Prop := fun vs H' => ∃ B' M' rs, Ok K B' H' M' ∧ Fr B H M B' H' M' ∧ RvAll K B' vs rs ∧ Φ rs M'
def GA (X : Cx) (es : List Expr) (ρ : List Rv) (M : Mem) (Φ : List Rv → Mem → Prop) (Ξ : Xi) : Prop :=
  ∀ B H σ, Ok X.K B H M → EnvOk X.K B σ ρ → Takes X (PostX X.K B H M Ξ) → aS X es σ H (PostA X.K B H M Φ)
structure DE where
  nx : List Rv → Mem → Prop
  rt : Rv → Mem → Prop
  bk : List Rv → Mem → Prop := fun _ _ => False
  ct : List Rv → Mem → Prop := fun _ _ => False
  xx : Xi := fun _ _ _ => False
def PostN (K : Frg) (B H : Hp) (M : Mem) (Ψ : List Rv → Mem → Prop) : Slots → Hp → Prop := fun σ' H' => ∃ B' M' ρ', Ok K B' H' M' ∧ Fr B H M B' H' M' ∧ EnvOk K B' σ' ρ' ∧ Ψ ρ' M'
def ends (K : Frg) (B H : Hp) (M : Mem) (D : DE) : Ends where
  nx := PostN K B H M D.nx
  rt := PostE K B H M D.rt
  bk := PostN K B H M D.bk
  ct := PostN K B H M D.ct
def GS (X : Cx) (st : Stmt) (ρ : List Rv) (M : Mem) (D : DE) : Prop :=
  ∀ B H σ, Ok X.K B H M → EnvOk X.K B σ ρ → Takes X (PostX X.K B H M D.xx) → sS X st (ends X.K B H M D) σ H
def GSs (X : Cx) (st : List Stmt) (ρ : List Rv) (M : Mem) (D : DE) : Prop :=
  ∀ B H σ, Ok X.K B H M → EnvOk X.K B σ ρ → Takes X (PostX X.K B H M D.xx) → ssS X st (ends X.K B H M D) σ H
/-- operations by values -/
def G2 (X : Cx) (f : Value → Value → Sem Value) (x y : Rv) (M : Mem) (Φ : Pst) : Prop :=
  ∀ B H v w, Ok X.K B H M → RvOk X.K B v x → RvOk X.K B w y → oS X f v w H (PostE X.K B H M Φ)
def G1 (X : Cx) (f : Value → Sem Value) (x : Rv) (M : Mem) (Φ : Pst) : Prop :=
  ∀ B H v, Ok X.K B H M → RvOk X.K B v x → uS X f v H (PostE X.K B H M Φ)
def GC (X : Cx) (f : Value) (xs : List Rv) (M : Mem) (Φ : Pst) : Prop :=
  ∀ B H vs, Ok X.K B H M → RvAll X.K B vs xs → cS X f vs H (PostE X.K B H M Φ)
end Dl

set_option Elab.async false
set_option linter.all false
set_option maxRecDepth 100000
set_option maxHeartbeats 4000000
namespace Dl
open PySem PySem.Spec PyProof.Rows L2
section
variable {X : Cx} {ρ : List Rv} {M : Mem} {Φ : Pst} {Ξ : Xi}

/-! ## glue -/
theorem tk_after {B H B1 H1 : Hp} {M1 : Mem} {Ξ : Xi} (tk : Takes X (PostX X.K B H M Ξ)) (f : Fr B H M B1 H1 M1) : Takes X (PostX X.K B1 H1 M1 Ξ) := tk.imp (postX_after f)
theorem post_lift {B H B1 H1 : Hp} {M1 : Mem} (f : Fr B H M B1 H1 M1) {e : Expr} {σ : Slots} (h : eS X e σ H1 (PostE X.K B1 H1 M1 Φ)) : eS X e σ H1 (PostE X.K B H M Φ) := eS_mono h fun _ _ => postE_after f
theorem ge_mono {Φ' : Pst} {e : Expr} (h : GE X e ρ M Φ Ξ) (k : ∀ r M', Φ r M' → Φ' r M') : GE X e ρ M Φ' Ξ := fun B H σ ok env tk => eS_mono (h B H σ ok env tk) fun _ _ => postE_mono k
/-- one expression, then a step on its value -/
theorem one {e : Expr} {Ψ : Rv → Mem → Prop} (ha : GE X e ρ M Ψ Ξ) {B H : Hp} {σ : Slots} (ok : Ok X.K B H M) (env : EnvOk X.K B σ ρ) (tk : Takes X (PostX X.K B H M Ξ))
    {Q : VK} (k : ∀ v H1 B1 M1 r, Ok X.K B1 H1 M1 → Fr B H M B1 H1 M1 → RvOk X.K B1 v r → Ψ r M1 → Q v H1) : eS X e σ H Q :=
  eS_mono (ha B H σ ok env tk) fun v H1 ⟨B1, M1, r, o1, f1, q1, p⟩ => k v H1 B1 M1 r o1 f1 q1 p
theorem two {a b : Expr} {f : Value → Value → Sem Value} (ha : GE X a ρ M (fun x M1 => GE X b ρ M1 (fun y M2 => G2 X f x y M2 Φ) Ξ) Ξ)
    {B H : Hp} {σ : Slots} (ok : Ok X.K B H M) (env : EnvOk X.K B σ ρ) (tk : Takes X (PostX X.K B H M Ξ)) :
    eS X a σ H fun v H1 => eS X b σ H1 fun w H2 => oS X f v w H2 (PostE X.K B H M Φ) :=
  one ha ok env tk fun v H1 B1 M1 r o1 f1 q1 hb => one hb o1 (env_mono f1.ex env) (tk_after tk f1) fun w H2 B2 M2 r2 o2 f2 q2 h =>
    oS_mono (h B2 H2 v w o2 (rv_mono f2.ex q1) q2) fun _ _ => postE_after (f1.trans f2)

/-! ## names and constants -/
def Nm (X : Cx) (i : Nat) (x : Str) : Prop := X.N[i]? = some x
structure Var (X : Cx) (i : Nat) (x : Str) : Prop where
  n : X.N[i]? = some x
  v : Vis X.env.scope x
  l : L2.Loc X.env.scope x
  f : X.fn x = true
  d1 : (x == ("__debug__" : Str)) = false
  d2 : (x == ("__classdict__" : Str)) = false
theorem ge_name {i : Nat} {r : Rv} {x : Str} {pos : Pos} (hv : Var X i x) (hr : ρ[i]? = some r) (hn : r.isAny = false) (h : Φ r M) : GE X (.Name x pos) ρ M Φ Ξ := fun B H σ ok env tk => by
  obtain ⟨v, e, q⟩ := env_get i env hr hn
  exact eS_of (pe_var hv.n hv.v hv.d1 hv.d2) ⟨v, e, post_same ok q h⟩
/-- within a comprehension -/
theorem ge_nameC {i : Nat} {r : Rv} {x : Str} {pos : Pos} (hN : Nm X i x) (hv : Vis X.env.scope x) (hr : ρ[i]? = some r) (hn : r.isAny = false) (h : Φ r M)
    (hd : (x == ("__debug__" : Str)) = false := by decide) (hcd : (x == ("__classdict__" : Str)) = false := by decide) : GE X (.Name x pos) ρ M Φ Ξ := fun B H σ ok env tk => by
  obtain ⟨v, e, q⟩ := env_get i env hr hn
  exact eS_of (pe_var hN hv hd hcd) ⟨v, e, post_same ok q h⟩
theorem ge_int {i : Int} {j pos} (h : Φ (.d (.int i)) M) : GE X (.Constant (.int i) j pos) ρ M Φ Ξ := fun B H σ ok env tk => eS_of pe_int (post_same ok (.d (.int i)) h)
theorem ge_bl {b : Bool} {j pos} (h : Φ (.d (.bool b)) M) : GE X (.Constant (.bool b) j pos) ρ M Φ Ξ := fun B H σ ok env tk => eS_of pe_bl (post_same ok (.d (.bl b)) h)
theorem ge_non {j pos} (h : Φ (.d .none) M) : GE X (.Constant .none j pos) ρ M Φ Ξ := fun B H σ ok env tk => eS_of pe_non (post_same ok (.d .non) h)
theorem ge_str {x : Str} {j pos} (h : Φ (.d (.str x)) M) : GE X (.Constant (.str x) j pos) ρ M Φ Ξ := fun B H σ ok env tk => eS_of pe_str (post_same ok (.d (.str x)) h)
structure Glo (X : Cx) (x : Str) (v : V) : Prop where
  ex : ∃ u, X.mg x = some u ∧ RelV v u
  d : (x == ("__debug__" : Str)) = false
theorem ge_glob {x : Str} {v : V} {d : PyData} {pos : Pos} (hm : Glo X x v) (hd : ∀ K H, Dp K H v d) (hg : Gl X x) (h : Φ (.d d) M) : GE X (.Name x pos) ρ M Φ Ξ := fun B H σ ok env tk => by
  obtain ⟨⟨u, hm, r⟩, hdb⟩ := hm
  exact eS_of (pe_glob hg hm r hdb) (post_same ok (.d (hd _ _)) h)

/-! ## operators -/
theorem ge_bin {a b : Expr} {op : Operator} {pos : Pos} (ha : GE X a ρ M (fun x M1 => GE X b ρ M1 (fun y M2 => G2 X (binaryOp op) x y M2 Φ) Ξ) Ξ) : GE X (.BinOp a op b pos) ρ M Φ Ξ :=
  fun B H σ ok env tk => eS_of (pe_op op_S pe_S pe_S) (two ha ok env tk)
theorem ge_cmp {a b : Expr} {op : CmpOp} {pos : Pos} (hm : behindInMarks op b = false) (ha : GE X a ρ M (fun x M1 => GE X b ρ M1 (fun y M2 => G2 X (compareOp op) x y M2 Φ) Ξ) Ξ) : GE X (.Compare a [op] [b] pos) ρ M Φ Ξ :=
  fun B H σ ok env tk => eS_of (pe_cmpR op_S pe_S pe_S hm) (two ha ok env tk)
theorem ge_un {a : Expr} {op : UnaryOp} {pos : Pos} {f : Value → Sem Value} (hp : ∀ {X : Cx} {t : TE} {r : V → Hp → VK → Prop} {pos : Pos}, UnR X f r → PE X a t → PE X (.UnaryOp op a pos) (tUn r t))
    (ha : GE X a ρ M (fun x M1 => G1 X f x M1 Φ) Ξ) : GE X (.UnaryOp op a pos) ρ M Φ Ξ :=
  fun B H σ ok env tk => eS_of (hp un_S pe_S) (one ha ok env tk fun v H1 B1 M1 r o1 f1 q1 h => fun pins s σ v' I r' =>
    thn (h B1 H1 v o1 q1 pins s σ v' I r') fun u s' ⟨w, H', I', r, q⟩ => ⟨w, H', I', r, postE_after f1 q⟩)
section
variable {i j : Int}
theorem g2_mk {f : Value → Value → Sem Value} {r : R2} {x y : Rv} (h : OpR X f r) (k : ∀ B H v w, Ok X.K B H M → RvOk X.K B v x → RvOk X.K B w y → r v w H (PostE X.K B H M Φ)) : G2 X f x y M Φ := fun B H v w ok a b => oS_of h (k B H v w ok a b)
theorem int_of {K : Frg} {B : Hp} {v : V} {i : Int} (h : RvOk K B v (.d (.int i))) : v = .int i := by cases h with | d h => cases h; rfl
theorem bool_of {K : Frg} {B : Hp} {v : V} {i : Bool} (h : RvOk K B v (.d (.bool i))) : v = .bl i := by cases h with | d h => cases h; rfl
theorem str_of {K : Frg} {B : Hp} {v : V} {i : Str} (h : RvOk K B v (.d (.str i))) : v = .str i := by cases h with | d h => cases h; rfl
theorem g2_I0 {f : Value → Value → Sem Value} {g : Int → Int → V} (ho : OpR X f (rI0 g)) {d : PyData} (hd : ∀ K H, Dp K H (g i j) d) (h : Φ (.d d) M) : G2 X f (.d (.int i)) (.d (.int j)) M Φ :=
  g2_mk ho fun B H v w ok a b => ⟨i, j, int_of a, int_of b, post_same ok (.d (hd _ _)) h⟩
theorem g2_I {f : Value → Value → Sem Value} {C : Int → Int → Prop} {g : Int → Int → V} (ho : OpR X f (rI C g)) {d : PyData} (hd : ∀ K H, Dp K H (g i j) d) (hc : C i j) (h : Φ (.d d) M) : G2 X f (.d (.int i)) (.d (.int j)) M Φ :=
  g2_mk ho fun B H v w ok a b => ⟨i, j, int_of a, int_of b, hc, post_same ok (.d (hd _ _)) h⟩
theorem g2_add (h : Φ (.d (.int (i + j))) M) : G2 X (binaryOp .Add) (.d (.int i)) (.d (.int j)) M Φ := g2_I0 op_add (fun _ _ => .int _) h
theorem g2_sub (h : Φ (.d (.int (i - j))) M) : G2 X (binaryOp .Sub) (.d (.int i)) (.d (.int j)) M Φ := g2_I0 op_sub (fun _ _ => .int _) h
theorem g2_mul (hc : CMulW i j) (h : Φ (.d (.int (i * j))) M) : G2 X (binaryOp .Mult) (.d (.int i)) (.d (.int j)) M Φ := g2_I op_mulW (fun _ _ => .int _) hc h
theorem g2_fdiv (hc : CDivW i j) (h : Φ (.d (.int (i / j))) M) : G2 X (binaryOp .FloorDiv) (.d (.int i)) (.d (.int j)) M Φ := g2_I op_fdivW (fun _ _ => .int _) hc h
theorem g2_mod (hc : 0 < j) (h : Φ (.d (.int (i % j))) M) : G2 X (binaryOp .Mod) (.d (.int i)) (.d (.int j)) M Φ := g2_I op_modN (fun _ _ => .int _) (by omega) (by rw [Int.fmod_eq_emod_of_nonneg i (by omega)]; exact h)
theorem g2_lt (h : Φ (.d (.bool (decide (i < j)))) M) : G2 X (compareOp .Lt) (.d (.int i)) (.d (.int j)) M Φ := g2_I0 op_lt (fun _ _ => .bl _) h
theorem g2_le (h : Φ (.d (.bool (decide (i ≤ j)))) M) : G2 X (compareOp .LtE) (.d (.int i)) (.d (.int j)) M Φ := g2_I0 op_le (fun _ _ => .bl _) h
theorem g2_gt (h : Φ (.d (.bool (decide (j < i)))) M) : G2 X (compareOp .Gt) (.d (.int i)) (.d (.int j)) M Φ := g2_I0 op_gt (fun _ _ => .bl _) h
theorem g2_ge (h : Φ (.d (.bool (decide (j ≤ i)))) M) : G2 X (compareOp .GtE) (.d (.int i)) (.d (.int j)) M Φ := g2_I0 op_ge (fun _ _ => .bl _) h
theorem dec_v {i j : Int} : decide (V.int i = V.int j) = decide (i = j) := by
  by_cases h : i = j
  · subst h; simp
  · rw [decide_eq_false h, decide_eq_false (fun q => h (V.int.inj q))]
theorem g2_eqI (h : Φ (.d (.bool (decide (i = j)))) M) : G2 X (compareOp .Eq) (.d (.int i)) (.d (.int j)) M Φ :=
  g2_mk op_eq fun B H v w ok a b => by
    rw [int_of a, int_of b]
    exact ⟨rfl, post_same ok (by rw [dec_v]; exact .d (.bl _)) h⟩
theorem g2_neI (h : Φ (.d (.bool (!decide (i = j)))) M) : G2 X (compareOp .NotEq) (.d (.int i)) (.d (.int j)) M Φ :=
  g2_mk op_ne fun B H v w ok a b => by
    rw [int_of a, int_of b]
    exact ⟨rfl, post_same ok (by rw [dec_v]; exact .d (.bl _)) h⟩
theorem g2_eqB {p q : Bool} (h : Φ (.d (.bool (decide (p = q)))) M) : G2 X (compareOp .Eq) (.d (.bool p)) (.d (.bool q)) M Φ :=
  g2_mk op_eq fun B H v w ok a b => by
    rw [bool_of a, bool_of b]
    refine ⟨rfl, post_same ok (r := .d (.bool (decide (p = q)))) ?_ h⟩
    have : decide (V.bl p = V.bl q) = decide (p = q) := by cases p <;> cases q <;> rfl
    rw [this]; exact .d (.bl _)
theorem g2_neB {p q : Bool} (h : Φ (.d (.bool (!decide (p = q)))) M) : G2 X (compareOp .NotEq) (.d (.bool p)) (.d (.bool q)) M Φ :=
  g2_mk op_ne fun B H v w ok a b => by
    rw [bool_of a, bool_of b]
    refine ⟨rfl, post_same ok (r := .d (.bool (!decide (p = q)))) ?_ h⟩
    have : decide (V.bl p = V.bl q) = decide (p = q) := by cases p <;> cases q <;> rfl
    rw [this]; exact .d (.bl _)
theorem dec_s {i j : Str} : decide (V.str i = V.str j) = decide (i = j) := by
  by_cases h : i = j
  · subst h; simp
  · rw [decide_eq_false h, decide_eq_false (fun q => h (V.str.inj q))]
theorem g2_eqS {i j : Str} (h : Φ (.d (.bool (decide (i = j)))) M) : G2 X (compareOp .Eq) (.d (.str i)) (.d (.str j)) M Φ :=
  g2_mk op_eq fun B H v w ok a b => by
    rw [str_of a, str_of b]
    exact ⟨rfl, post_same ok (by rw [dec_s]; exact .d (.bl _)) h⟩
theorem g2_neS {i j : Str} (h : Φ (.d (.bool (!decide (i = j)))) M) : G2 X (compareOp .NotEq) (.d (.str i)) (.d (.str j)) M Φ :=
  g2_mk op_ne fun B H v w ok a b => by
    rw [str_of a, str_of b]
    exact ⟨rfl, post_same ok (by rw [dec_s]; exact .d (.bl _)) h⟩
/-- == of data at any depth -/
theorem g2_eqD {d e : PyData} (hu : X.A.units + 64 < cLine) (sd : SeqAt.shaped d = true) (se : SeqAt.shaped e = true) (h : Φ (.d (.bool (PyData.eqv d e))) M) : G2 X (compareOp .Eq) (.d d) (.d e) M Φ :=
  g2_mk (op_eqD hu) fun B H v w ok a b => by
    cases a with
    | d a => cases b with
      | d b => exact ⟨d, e, dp_mono ok.ext _ a, dp_mono ok.ext _ b, sd, se, post_same ok (.d (.bl _)) h⟩
theorem g2_neD {d e : PyData} (hu : X.A.units + 64 < cLine) (sd : SeqAt.shaped d = true) (se : SeqAt.shaped e = true) (h : Φ (.d (.bool (!PyData.eqv d e))) M) : G2 X (compareOp .NotEq) (.d d) (.d e) M Φ :=
  g2_mk (op_neD hu) fun B H v w ok a b => by
    cases a with
    | d a => cases b with
      | d b => exact ⟨d, e, dp_mono ok.ext _ a, dp_mono ok.ext _ b, sd, se, post_same ok (.d (.bl _)) h⟩
end

/-! ## tests -/
theorem gt_cmp {a b : Expr} {op : CmpOp} {pos : Pos} {Ψ : Bool → Mem → Prop} (hm : behindInMarks op b = false)
    (ha : GE X a ρ M (fun x M1 => GE X b ρ M1 (fun y M2 => G2 X (compareOp op) x y M2 fun r M3 => ∃ c, r = .d (.bool c) ∧ Ψ c M3) Ξ) Ξ) : GT X (.Compare a [op] [b] pos) ρ M Ψ Ξ :=
  fun B H σ ok env tk => tS_of (pt_cmpR op_S pe_S pe_S hm) (eS_mono (two ha ok env tk) fun v H1 h1 => eS_mono h1 fun w H2 h2 => oS_mono h2 fun z H3 ⟨B', M', r, o, f, q, c, e, k⟩ => by
    subst e
    exact ⟨c, bool_of q, B', M', o, f, k⟩)
theorem gt_val {e : Expr} {Ψ : Bool → Mem → Prop} (hw : ∀ whole, isTrue e X.env whole = (do let v ← whole; standAt e.pos; holding [v] (truthy v))) (ha : GE X e ρ M (fun r M1 => ∃ c, r = .d (.bool c) ∧ Ψ c M1) Ξ) : GT X e ρ M Ψ Ξ :=
  fun B H σ ok env tk => tS_of (pt_val pe_S hw) (one ha ok env tk fun v H1 B1 M1 r o1 f1 q1 ⟨c, e, k⟩ => by
    subst e
    exact ⟨c, bool_of q1, B1, M1, o1, f1, k⟩)
theorem gt_not {a : Expr} {pos : Pos} {Ψ : Bool → Mem → Prop} (ha : GT X a ρ M (fun c M1 => Ψ (!c) M1) Ξ) : GT X (.UnaryOp .Not a pos) ρ M Ψ Ξ :=
  fun B H σ ok env tk => tS_of (pt_not pt_S) (tS_mono (ha B H σ ok env tk) fun c H1 ⟨B1, M1, o1, f1, k⟩ => ⟨B1, M1, o1, f1, k⟩)
theorem gt_w {e : Expr} {Ψ : Bool → Mem → Prop} (h : GW X e ρ M Ψ Ξ) : GT X e ρ M Ψ Ξ := fun B H σ ok env tk => tS_of (PW.pt pw_S) (h B H σ ok env tk)
theorem gw_and1 {a : Expr} {pos : Pos} {Ψ : Bool → Mem → Prop} (h : GT X a ρ M Ψ Ξ) : GW X (.BoolOp .And [a] pos) ρ M Ψ Ξ := fun B H σ ok env tk => wS_of (pw_and1 pt_S) (h B H σ ok env tk)
theorem gw_or1 {a : Expr} {pos : Pos} {Ψ : Bool → Mem → Prop} (h : GT X a ρ M Ψ Ξ) : GW X (.BoolOp .Or [a] pos) ρ M Ψ Ξ := fun B H σ ok env tk => wS_of (pw_or1 pt_S) (h B H σ ok env tk)
theorem postT_after {K : Frg} {B H B1 H1 : Hp} {M M1 : Mem} {Ψ : Bool → Mem → Prop} (f : Fr B H M B1 H1 M1) {b : Bool} {H' : Hp} : PostT K B1 H1 M1 Ψ b H' → PostT K B H M Ψ b H' := fun ⟨B', M', o, g, q⟩ => ⟨B', M', o, f.trans g, q⟩
theorem gw_and {a b : Expr} {rest : List Expr} {pos : Pos} {Ψ : Bool → Mem → Prop} (h : GT X a ρ M (fun c M1 => (c = true → GW X (.BoolOp .And (b :: rest) pos) ρ M1 Ψ Ξ) ∧ (c = false → Ψ false M1)) Ξ) : GW X (.BoolOp .And (a :: b :: rest) pos) ρ M Ψ Ξ :=
  fun B H σ ok env tk => wS_of (pw_and pt_S pw_S) (tS_mono (h B H σ ok env tk) fun c H1 ⟨B1, M1, o1, f1, k⟩ => by
    cases c with
    | true => exact wS_mono (k.1 rfl B1 H1 σ o1 (env_mono f1.ex env) (tk_after tk f1)) fun _ _ => postT_after f1
    | false => exact ⟨B1, M1, o1, f1, k.2 rfl⟩)
theorem gw_or {a b : Expr} {rest : List Expr} {pos : Pos} {Ψ : Bool → Mem → Prop} (h : GT X a ρ M (fun c M1 => (c = false → GW X (.BoolOp .Or (b :: rest) pos) ρ M1 Ψ Ξ) ∧ (c = true → Ψ true M1)) Ξ) : GW X (.BoolOp .Or (a :: b :: rest) pos) ρ M Ψ Ξ :=
  fun B H σ ok env tk => wS_of (pw_or pt_S pw_S) (tS_mono (h B H σ ok env tk) fun c H1 ⟨B1, M1, o1, f1, k⟩ => by
    cases c with
    | false => exact wS_mono (k.1 rfl B1 H1 σ o1 (env_mono f1.ex env) (tk_after tk f1)) fun _ _ => postT_after f1
    | true => exact ⟨B1, M1, o1, f1, k.2 rfl⟩)
/-! .. as values -/
theorem ge_one {op : BoolOp} {a : Expr} {pos : Pos} (h : GE X a ρ M Φ Ξ) : GE X (.BoolOp op [a] pos) ρ M Φ Ξ := fun B H σ ok env tk => eS_of (pe_one pe_S) (h B H σ ok env tk)
theorem ge_and {a b : Expr} {rest : List Expr} {pos : Pos} (h : GE X a ρ M (fun r M1 => ∃ c, r = .d (.bool c) ∧ (c = true → GE X (.BoolOp .And (b :: rest) pos) ρ M1 Φ Ξ) ∧ (c = false → Φ (.d (.bool false)) M1)) Ξ) : GE X (.BoolOp .And (a :: b :: rest) pos) ρ M Φ Ξ :=
  fun B H σ ok env tk => eS_of (pe_and pe_S pe_S) (one h ok env tk fun v H1 B1 M1 r o1 f1 q1 ⟨c, e, k⟩ => by
    subst e
    refine ⟨c, bool_of q1, ?_⟩
    cases c with
    | true => exact post_lift f1 (k.1 rfl B1 H1 σ o1 (env_mono f1.ex env) (tk_after tk f1))
    | false => exact ⟨B1, M1, _, o1, f1, .d (.bl false), k.2 rfl⟩)
theorem ge_or {a b : Expr} {rest : List Expr} {pos : Pos} (h : GE X a ρ M (fun r M1 => ∃ c, r = .d (.bool c) ∧ (c = false → GE X (.BoolOp .Or (b :: rest) pos) ρ M1 Φ Ξ) ∧ (c = true → Φ (.d (.bool true)) M1)) Ξ) : GE X (.BoolOp .Or (a :: b :: rest) pos) ρ M Φ Ξ :=
  fun B H σ ok env tk => eS_of (pe_or pe_S pe_S) (one h ok env tk fun v H1 B1 M1 r o1 f1 q1 ⟨c, e, k⟩ => by
    subst e
    refine ⟨c, bool_of q1, ?_⟩
    cases c with
    | false => exact post_lift f1 (k.1 rfl B1 H1 σ o1 (env_mono f1.ex env) (tk_after tk f1))
    | true => exact ⟨B1, M1, _, o1, f1, .d (.bl true), k.2 rfl⟩)
theorem ge_not {a : Expr} {pos : Pos} (h : GE X a ρ M (fun r M1 => ∃ c, r = .d (.bool c) ∧ Φ (.d (.bool (!c))) M1) Ξ) : GE X (.UnaryOp .Not a pos) ρ M Φ Ξ :=
  fun B H σ ok env tk => eS_of (pe_not pe_S) (one h ok env tk fun v H1 B1 M1 r o1 f1 q1 ⟨c, e, k⟩ => by
    subst e
    exact ⟨c, bool_of q1, B1, M1, _, o1, f1, .d (.bl _), k⟩)
theorem ge_if {c a b : Expr} {pos : Pos} (h : GT X c ρ M (fun k M1 => (k = true → GE X a ρ M1 Φ Ξ) ∧ (k = false → GE X b ρ M1 Φ Ξ)) Ξ) : GE X (.IfExp c a b pos) ρ M Φ Ξ :=
  fun B H σ ok env tk => eS_of (pe_ifExp pt_S pe_S pe_S) (tS_mono (h B H σ ok env tk) fun k H1 ⟨B1, M1, o1, f1, q⟩ => by
    cases k with
    | true => exact post_lift f1 (q.1 rfl B1 H1 σ o1 (env_mono f1.ex env) (tk_after tk f1))
    | false => exact post_lift f1 (q.2 rfl B1 H1 σ o1 (env_mono f1.ex env) (tk_after tk f1)))
/-- a < b < c -/
theorem ge_chain {a b c : Expr} {op op' : CmpOp} {pos : Pos} (hm : lastMarks [op, op'] [b, c] = false)
    (h : GE X a ρ M (fun x M1 => GE X b ρ M1 (fun y M2 => G2 X (compareOp op) x y M2 fun r M3 => ∃ k, r = .d (.bool k) ∧ (k = true → GE X c ρ M3 (fun z M4 => G2 X (compareOp op') y z M4 Φ) Ξ) ∧ (k = false → Φ (.d (.bool false)) M3)) Ξ) Ξ) :
    GE X (.Compare a [op, op'] [b, c] pos) ρ M Φ Ξ :=
  fun B H σ ok env tk => eS_of (pe_chain op_S op_S pe_S pe_S pe_S hm) (one h ok env tk fun v H1 B1 M1 r o1 f1 q1 hb => one hb o1 (env_mono f1.ex env) (tk_after tk f1) fun w H2 B2 M2 y o2 f2 q2 h2 =>
    oS_mono (h2 B2 H2 v w o2 (rv_mono f2.ex q1) q2) fun z H3 ⟨B3, M3, r3, o3, f3, q3, k, e, k1, k2⟩ => by
      subst e
      have f : Fr B H M B3 H3 M3 := (f1.trans f2).trans f3
      refine ⟨k, bool_of q3, ?_⟩
      cases k with
      | true => exact one (k1 rfl) o3 (env_mono f.ex env) (tk_after tk f) fun w4 H4 B4 M4 r4 o4 f4 q4 h4 => oS_mono (h4 B4 H4 w w4 o4 (rv_mono (f3.trans f4).ex q2) q4) fun _ _ => postE_after (f.trans f4)
      | false => exact ⟨B3, M3, _, o3, f, .d (.bl false), k2 rfl⟩)

/-! ## argument lists, displays, calls -/
theorem ga_nil {Ψ : List Rv → Mem → Prop} (h : Ψ [] M) : GA X [] ρ M Ψ Ξ := fun B H σ ok env tk => aS_of pa_nil ⟨B, M, [], ok, .refl, .nil, h⟩
theorem ga_cons {e : Expr} {es : List Expr} {Ψ : List Rv → Mem → Prop} (hs : starEach (e :: es) X.env = (false, eval e X.env) :: starEach es X.env)
    (h : GE X e ρ M (fun r M1 => GA X es ρ M1 (fun rs M2 => Ψ (r :: rs) M2) Ξ) Ξ) : GA X (e :: es) ρ M Ψ Ξ :=
  fun B H σ ok env tk => aS_of (pa_cons pe_S pa_S hs) (one h ok env tk fun v H1 B1 M1 r o1 f1 q1 ha => aS_mono (ha B1 H1 σ o1 (env_mono f1.ex env) (tk_after tk f1)) fun vs H2 ⟨B2, M2, rs, o2, f2, q2, k⟩ =>
    ⟨B2, M2, r :: rs, o2, f1.trans f2, .cons (rv_mono f2.ex q1) q2, k⟩)
theorem args {es : List Expr} {Ψ : List Rv → Mem → Prop} (ha : GA X es ρ M Ψ Ξ) {B H : Hp} {σ : Slots} (ok : Ok X.K B H M) (env : EnvOk X.K B σ ρ) (tk : Takes X (PostX X.K B H M Ξ))
    {Q : List V → Hp → Prop} (k : ∀ v H1 B1 M1 r, Ok X.K B1 H1 M1 → Fr B H M B1 H1 M1 → RvAll X.K B1 v r → Ψ r M1 → Q v H1) : aS X es σ H Q :=
  aS_mono (ha B H σ ok env tk) fun v H1 ⟨B1, M1, r, o1, f1, q1, p⟩ => k v H1 B1 M1 r o1 f1 q1 p
/-- a display that will not change -/
theorem ge_tup {es : List Expr} {k : Nat} {pos : Pos} (h : GA X es ρ M (fun rs M1 => ∃ ds : List PyData, rs = ds.map Rv.d ∧ ds.length ≤ sizeLine ∧ Φ (.d (.tuple ds)) M1) Ξ) : GE X (.Tuple es k pos) ρ M Φ Ξ :=
  fun B H σ ok env tk => eS_of (pe_tup pa_S) (args h ok env tk fun vs H1 B1 M1 rs o1 f1 q1 ⟨ds, e, z, k⟩ => by
    subst e
    refine ⟨by rw [q1.length, List.length_map]; exact z, fun p hp => postE_after f1 (post_frz o1 hp (.d (.tup (.of upd_same) (dpAll_mono (same_new (sub_none o1.ext hp)) _ q1.data))) k)⟩)
theorem ge_tupR {es : List Expr} {k : Nat} {pos : Pos} (h : GA X es ρ M (fun rs M1 => rs.length ≤ sizeLine ∧ Φ (.tup rs) M1) Ξ) : GE X (.Tuple es k pos) ρ M Φ Ξ :=
  fun B H σ ok env tk => eS_of (pe_tup pa_S) (args h ok env tk fun vs H1 B1 M1 rs o1 f1 q1 ⟨z, k⟩ => by
    refine ⟨by rw [q1.length]; exact z, fun p hp => postE_after f1 (post_frz o1 hp (.tup (.of upd_same) (rvAll_mono (same_new (sub_none o1.ext hp)) q1)) k)⟩)
theorem ge_lst {es : List Expr} {pos : Pos} (h : GA X es ρ M (fun rs M1 => ∃ ds : List PyData, rs = ds.map Rv.d ∧ ds.length ≤ sizeLine ∧ Φ (.d (.list ds)) M1) Ξ) : GE X (.List es pos) ρ M Φ Ξ :=
  fun B H σ ok env tk => eS_of (pe_lst pa_S) (args h ok env tk fun vs H1 B1 M1 rs o1 f1 q1 ⟨ds, e, z, k⟩ => by
    subst e
    refine ⟨by rw [q1.length, List.length_map]; exact z, fun p hp => postE_after f1 (post_frz o1 hp (.d (.lst (.of upd_same) (dpAll_mono (same_new (sub_none o1.ext hp)) _ q1.data))) k)⟩)
/-- a list display that may change -/
theorem ge_own {es : List Expr} {pos : Pos} (h : GA X es ρ M (fun rs M1 => rs.length ≤ sizeLine ∧ ∀ p, Φ (.cell p) ((p, Is rs) :: M1)) Ξ) : GE X (.List es pos) ρ M Φ Ξ :=
  fun B H σ ok env tk => eS_of (pe_lst pa_S) (args h ok env tk fun vs H1 B1 M1 rs o1 f1 q1 ⟨z, k⟩ => by
    refine ⟨by rw [q1.length]; exact z, fun p hp => postE_after f1 (post_own (P := Is rs) o1 hp q1 rfl (k p))⟩)
structure Bi (X : Cx) (x : Str) (v : Value) : Prop where
  m : X.mg x = none
  b : bootBuiltins x = some v
  n : x ≠ "__name__"
  d : (x == ("__debug__" : Str)) = false
theorem ge_callB {x : Str} {id : String} {e : Expr} {es : List Expr} {p pos : Pos} (hb : Bi X x (.builtin id)) (hg : Gl X x) (he : starEach (e :: es) X.env = (false, eval e X.env) :: starEach es X.env) (hpl : (backTo pos (starEach es X.env)).any (·.1) = false)
    (h : GA X (e :: es) ρ M (fun rs M1 => GC X (.builtin id) rs M1 Φ) Ξ) : GE X (.Call (.Name x p) (e :: es) [] pos) ρ M Φ Ξ :=
  fun B H σ ok env tk => eS_of (pe_callB call_S hg hb.m hb.b pa_S hb.n hb.d he hpl) (args h ok env tk fun vs H1 B1 M1 rs o1 f1 q1 k => cS_mono (k B1 H1 vs o1 q1) fun _ _ => postE_after f1)
theorem ge_callTy {x : Str} {id : String} {e : Expr} {es : List Expr} {p pos : Pos} (hb : Bi X x (.type id)) (hg : Gl X x) (he : starEach (e :: es) X.env = (false, eval e X.env) :: starEach es X.env) (hpl : (backTo pos (starEach es X.env)).any (·.1) = false)
    (h : GA X (e :: es) ρ M (fun rs M1 => GC X (.type id) rs M1 Φ) Ξ) : GE X (.Call (.Name x p) (e :: es) [] pos) ρ M Φ Ξ :=
  fun B H σ ok env tk => eS_of (pe_callTy call_S hg hb.m hb.b pa_S hb.n hb.d he hpl) (args h ok env tk fun vs H1 B1 M1 rs o1 f1 q1 k => cS_mono (k B1 H1 vs o1 q1) fun _ _ => postE_after f1)
theorem gc_mk {f : Value} {r : List V → Hp → VK → Prop} {xs : List Rv} (h : CallR X f r) (k : ∀ B H vs, Ok X.K B H M → RvAll X.K B vs xs → r vs H (PostE X.K B H M Φ)) : GC X f xs M Φ := fun B H vs ok a => cS_of h (k B H vs ok a)
end
end Dl

set_option Elab.async false
set_option linter.all false
set_option maxRecDepth 100000
set_option maxHeartbeats 4000000
namespace Dl
open PySem PySem.Spec PyProof.Rows L2
section
variable {X : Cx} {ρ : List Rv} {M : Mem} {Φ : Pst} {Ξ : Xi} {D : DE}

/-! ## targets -/
def gS (X : Cx) (tg : Expr) : TG := fun v σ H Q => ∀ (pins : List (Addr × Obj)) (s : Shared) (u : Value), Inv X pins σ H s → RelV v u →
  wpAny (model X.prog X.w) X.A (assign tg X.env u) (fun _ s' => ∃ σ' H', Inv X pins σ' H' s' ∧ Q σ' H') X.xe s
theorem pg_S {tg : Expr} : PG X tg (gS X tg) := ⟨fun pins s _ _ _ u _ I r h => h pins s u I r⟩
theorem gS_of {tg : Expr} {t : TG} (h : PG X tg t) {v : V} {σ : Slots} {H : Hp} {Q : Slots → Hp → Prop} (q : t v σ H Q) : gS X tg v σ H Q := fun pins s u I r => h.run pins s σ H v u Q I r q
theorem gS_mono {tg : Expr} {v : V} {σ : Slots} {H : Hp} {Q Q' : Slots → Hp → Prop} (h : gS X tg v σ H Q) (k : ∀ σ' H', Q σ' H' → Q' σ' H') : gS X tg v σ H Q' := fun pins s u I r =>
  thn (h pins s u I r) fun _ s' ⟨σ', H', I', q⟩ => ⟨σ', H', I', k _ _ q⟩
/-- a target takes a value; vs: the slots of a comprehension's own names (none else are stored, where vs is asked for) -/
def GG (X : Cx) (tg : Expr) (r : Rv) (ρ : List Rv) (M : Mem) (Ψ : List Rv → Mem → Prop) (vs : List Nat) : Prop :=
  ∀ B H σ v, Ok X.K B H M → EnvOk X.K B σ ρ → RvOk X.K B v r → gS X tg v σ H fun σ' H' => (vs ≠ [] → wipe σ' vs = wipe σ vs) ∧ PostN X.K B H M Ψ σ' H'
theorem postN_after {K : Frg} {B H B1 H1 : Hp} {M M1 : Mem} {Ψ : List Rv → Mem → Prop} (f : Fr B H M B1 H1 M1) {σ : Slots} {H' : Hp} : PostN K B1 H1 M1 Ψ σ H' → PostN K B H M Ψ σ H' :=
  fun ⟨B', M', r, o, g, e, q⟩ => ⟨B', M', r, o, f.trans g, e, q⟩
theorem postN_mono {K : Frg} {B H : Hp} {M : Mem} {Ψ Ψ' : List Rv → Mem → Prop} (h : ∀ r M', Ψ r M' → Ψ' r M') {σ : Slots} {H' : Hp} : PostN K B H M Ψ σ H' → PostN K B H M Ψ' σ H' :=
  fun ⟨B', M', r, o, g, e, q⟩ => ⟨B', M', r, o, g, e, h _ _ q⟩
theorem ends_after {K : Frg} {B H B1 H1 : Hp} {M M1 : Mem} (f : Fr B H M B1 H1 M1) : (∀ σ' H', (ends K B1 H1 M1 D).nx σ' H' → (ends K B H M D).nx σ' H') ∧ (∀ v H', (ends K B1 H1 M1 D).rt v H' → (ends K B H M D).rt v H') ∧
    (∀ σ' H', (ends K B1 H1 M1 D).bk σ' H' → (ends K B H M D).bk σ' H') ∧ (∀ σ' H', (ends K B1 H1 M1 D).ct σ' H' → (ends K B H M D).ct σ' H') :=
  ⟨fun _ _ => postN_after f, fun _ _ => postE_after f, fun _ _ => postN_after f, fun _ _ => postN_after f⟩
theorem sS_mono {st : Stmt} {σ : Slots} {H : Hp} {E E' : Ends} (h : sS X st E σ H) (k : (∀ σ' H', E.nx σ' H' → E'.nx σ' H') ∧ (∀ v H', E.rt v H' → E'.rt v H') ∧ (∀ σ' H', E.bk σ' H' → E'.bk σ' H') ∧ (∀ σ' H', E.ct σ' H' → E'.ct σ' H')) : sS X st E' σ H := fun pins s I =>
  thn (h pins s I) fun f s' q => by
    cases f with
    | next => obtain ⟨σ', H', I', q⟩ := q; exact ⟨σ', H', I', k.1 _ _ q⟩
    | brk => obtain ⟨σ', H', I', q⟩ := q; exact ⟨σ', H', I', k.2.2.1 _ _ q⟩
    | cont => obtain ⟨σ', H', I', q⟩ := q; exact ⟨σ', H', I', k.2.2.2 _ _ q⟩
    | ret u => obtain ⟨v, σ', H', I', r, q⟩ := q; exact ⟨v, σ', H', I', r, k.2.1 _ _ q⟩
theorem ssS_mono {st : List Stmt} {σ : Slots} {H : Hp} {E E' : Ends} (h : ssS X st E σ H) (k : (∀ σ' H', E.nx σ' H' → E'.nx σ' H') ∧ (∀ v H', E.rt v H' → E'.rt v H') ∧ (∀ σ' H', E.bk σ' H' → E'.bk σ' H') ∧ (∀ σ' H', E.ct σ' H' → E'.ct σ' H')) : ssS X st E' σ H := fun pins s I =>
  thn (h pins s I) fun f s' q => by
    cases f with
    | next => obtain ⟨σ', H', I', q⟩ := q; exact ⟨σ', H', I', k.1 _ _ q⟩
    | brk => obtain ⟨σ', H', I', q⟩ := q; exact ⟨σ', H', I', k.2.2.1 _ _ q⟩
    | cont => obtain ⟨σ', H', I', q⟩ := q; exact ⟨σ', H', I', k.2.2.2 _ _ q⟩
    | ret u => obtain ⟨v, σ', H', I', r, q⟩ := q; exact ⟨v, σ', H', I', r, k.2.1 _ _ q⟩
theorem wipe_set {σ : Slots} {i : Nat} {o : Option V} : ∀ {vs : List Nat}, i ∈ vs → wipe (σ.set i o) vs = wipe σ vs := by
  have key : ∀ (vs : List Nat), i ∉ vs → wipe (σ.set i o) vs = (wipe σ vs).set i o := by
    intro vs
    induction vs with
    | nil => intro _; rfl
    | cons a vs ih =>
      intro h
      have h1 : i ≠ a := fun e => h (by rw [e]; exact List.mem_cons_self)
      have h2 : i ∉ vs := fun e => h (List.mem_cons_of_mem _ e)
      show (wipe (σ.set i o) vs).set a none = ((wipe σ vs).set a none).set i o
      rw [ih h2, List.set_comm _ _ h1]
  intro vs
  induction vs with
  | nil => intro h; cases h
  | cons a vs ih =>
    intro h
    show (wipe (σ.set i o) vs).set a none = (wipe σ vs).set a none
    by_cases hm : i ∈ vs
    · rw [ih hm]
    · rcases List.mem_cons.mp h with h | h
      · subst h; rw [key vs hm, List.set_set]
      · exact absurd h hm
theorem gg_name {i : Nat} {x : Str} {pos : Pos} {r : Rv} {Ψ : List Rv → Mem → Prop} {vs : List Nat} (nd : X.N.Nodup) (hN : X.N[i]? = some x) (hl : L2.Loc X.env.scope x) (hf : X.fn x = true ∨ X.env.scope.names.lookup x = some .local) (hvs : vs = [] ∨ i ∈ vs)
    (h : Ψ (ρ.set i r) M) : GG X (.Name x pos) r ρ M Ψ vs := fun B H σ v ok env q =>
  gS_of (pg_name nd hN hl hf) ⟨fun hv => by
    rcases hvs with e | e
    · exact absurd e hv
    · exact wipe_set e, B, M, _, ok, .refl, env_set (.some q) i env, h⟩
/-- several targets -/
def GGs (X : Cx) (ts : List Expr) (rs : List Rv) (ρ : List Rv) (M : Mem) (Ψ : List Rv → Mem → Prop) (vs : List Nat) : Prop :=
  ∀ B H σ us, Ok X.K B H M → EnvOk X.K B σ ρ → RvAll X.K B us rs → ∃ t, PGs X ts t ∧ t us σ H fun σ' H' => (vs ≠ [] → wipe σ' vs = wipe σ vs) ∧ PostN X.K B H M Ψ σ' H'
theorem ggs_nil {Ψ : List Rv → Mem → Prop} {vs : List Nat} (h : Ψ ρ M) : GGs X [] [] ρ M Ψ vs := fun B H σ us ok env q => by
  cases q
  exact ⟨gNil, pgs_nil, rfl, fun _ => rfl, B, M, ρ, ok, .refl, env, h⟩
/-- all names -/
theorem ggs_cons {i : Nat} {x : Str} {pos : Pos} {ts : List Expr} {r : Rv} {rs : List Rv} {Ψ : List Rv → Mem → Prop} {vs : List Nat} (nd : X.N.Nodup) (hN : X.N[i]? = some x) (hl : L2.Loc X.env.scope x) (hf : X.fn x = true ∨ X.env.scope.names.lookup x = some .local) (hvs : vs = [] ∨ i ∈ vs)
    (he : (assignEach (.Name x pos :: ts) X.env).map (·.2) = assign (.Name x pos) X.env :: (assignEach ts X.env).map (·.2))
    (h : GGs X ts rs (ρ.set i r) M Ψ vs) : GGs X (.Name x pos :: ts) (r :: rs) ρ M Ψ vs := fun B H σ us ok env q => by
  cases q with
  | cons q qs =>
    rename_i v us
    obtain ⟨t, ht, k⟩ := h B H (σ.set i (some v)) us ok (env_set (.some q) i env) qs
    refine ⟨gCons (gName i) t, pgs_cons (pg_name nd hN hl hf) ht he, v, us, rfl, ?_⟩
    show t us (σ.set i (some v)) H _
    have e : ∀ σ' H', ((vs ≠ [] → wipe σ' vs = wipe (σ.set i (some v)) vs) ∧ PostN X.K B H M Ψ σ' H') = ((vs ≠ [] → wipe σ' vs = wipe σ vs) ∧ PostN X.K B H M Ψ σ' H') := fun σ' H' => by
      rcases hvs with e | e
      · subst e; simp
      · rw [wipe_set e]
    have e2 : (fun σ' H' => (vs ≠ [] → wipe σ' vs = wipe (σ.set i (some v)) vs) ∧ PostN X.K B H M Ψ σ' H') = (fun σ' H' => (vs ≠ [] → wipe σ' vs = wipe σ vs) ∧ PostN X.K B H M Ψ σ' H') := by
      funext σ' H'; exact e σ' H'
    rw [e2] at k
    exact k
theorem gg_tup {ts : List Expr} {k : Nat} {pos : Pos} {rs : List Rv} {r : Rv} {Ψ : List Rv → Mem → Prop} {vs : List Nat} (hc : X.calm = true) (hr : r = .tup rs ∨ ∃ ds : List PyData, r = .d (.tuple ds) ∧ rs = ds.map Rv.d)
    (hn : (assignEach ts X.env).length = rs.length) (hs : (assignEach ts X.env).findIdx? (·.1) = none) (h : GGs X ts rs ρ M Ψ vs) : GG X (.Tuple ts k pos) r ρ M Ψ vs := fun B H σ v ok env q => by
  obtain ⟨a, xs, rfl, hq, ha⟩ : ∃ a xs, v = .ref a ∧ SqT X.K B a xs ∧ RvAll X.K B xs rs := by
    rcases hr with rfl | ⟨ds, rfl, rfl⟩
    · cases q with | tup h1 h2 => exact ⟨_, _, rfl, h1, h2⟩
    · cases q with | d q => cases q with | tup h1 h2 => exact ⟨_, _, rfl, h1, RvAll.ofData h2⟩
  obtain ⟨t, ht, k⟩ := h B H σ xs ok env ha
  exact gS_of (pg_tup hc ht hn hs) ⟨a, xs, rfl, sq_mono ok.ext hq, ha.length, k⟩

/-! ## statements -/
theorem gs_asg {tg e : Expr} {pos : Pos} (h1 : swapsWithSole [tg] e pos.line X.env = pure false) (h2 : swappedStores [tg] e X.env = pure none) (h3 : (assignEach [tg] X.env).map (·.2) = [assign tg X.env])
    (h : GE X e ρ M (fun r M1 => GG X tg r ρ M1 D.nx []) D.xx) : GS X (.Assign [tg] e pos) ρ M D := fun B H σ ok env tk =>
  sS_of (ps_asg pe_S pg_S h1 h2 h3) (one h ok env tk fun v H1 B1 M1 r o1 f1 q1 k => gS_mono (k B1 H1 σ v o1 (env_mono f1.ex env) q1) fun σ' H' q => postN_after f1 q.2)
theorem gs_set {i : Nat} {x : Str} {e : Expr} {pos pos' : Pos} (hv : Var X i x) (nd : X.N.Nodup) (hs : swapsWith e (some (.Name x pos')) pos.line X.env = pure false)
    (h : GE X e ρ M (fun r M1 => D.nx (ρ.set i r) M1) D.xx) : GS X (.Assign [.Name x pos'] e pos) ρ M D := fun B H σ ok env tk =>
  sS_of (ps_set nd hv.n hv.l pe_S hs (.inl hv.f)) (one h ok env tk fun v H1 B1 M1 r o1 f1 q1 k => ⟨B1, M1, _, o1, f1, env_set (.some q1) i (env_mono f1.ex env), k⟩)
theorem gs_ret {e : Expr} {pos : Pos} (h : GE X e ρ M D.rt D.xx) : GS X (.Return (some e) pos) ρ M D := fun B H σ ok env tk => sS_of (ps_ret pe_S) (h B H σ ok env tk)
theorem gs_retN {pos : Pos} (h : D.rt (.d .none) M) : GS X (.Return none pos) ρ M D := fun B H σ ok env tk => sS_of ps_retN ⟨B, M, _, ok, .refl, .d .non, h⟩
theorem gs_expr {e : Expr} {pos : Pos} (hs : swapsWith e none pos.line X.env = pure false) (h : GE X e ρ M (fun _ M1 => D.nx ρ M1) D.xx) : GS X (.Expr e pos) ρ M D := fun B H σ ok env tk =>
  sS_of (ps_expr pe_S hs) (one h ok env tk fun v H1 B1 M1 r o1 f1 q1 k => ⟨B1, M1, ρ, o1, f1, env_mono f1.ex env, k⟩)
theorem gs_if {c : Expr} {a b : List Stmt} {pos : Pos} (h : GT X c ρ M (fun k M1 => (k = true → GSs X a ρ M1 D) ∧ (k = false → GSs X b ρ M1 D)) D.xx) : GS X (.If c a b pos) ρ M D := fun B H σ ok env tk =>
  sS_of (ps_if pt_S pss_S pss_S) (tS_mono (h B H σ ok env tk) fun k H1 ⟨B1, M1, o1, f1, q⟩ => by
    cases k with
    | true => exact ssS_mono (q.1 rfl B1 H1 σ o1 (env_mono f1.ex env) (tk_after tk f1)) (ends_after f1)
    | false => exact ssS_mono (q.2 rfl B1 H1 σ o1 (env_mono f1.ex env) (tk_after tk f1)) (ends_after f1))
theorem gss_nil (h : D.nx ρ M) : GSs X [] ρ M D := fun B H σ ok env tk => ssS_of pss_nil ⟨B, M, ρ, ok, .refl, env, h⟩
theorem gss_cons {st : Stmt} {rest : List Stmt} (h : GS X st ρ M { D with nx := fun ρ1 M1 => GSs X rest ρ1 M1 D }) : GSs X (st :: rest) ρ M D := fun B H σ ok env tk =>
  ssS_of (pss_cons ps_S pss_S) (sS_mono (h B H σ ok env tk) ⟨fun σ' H' ⟨B1, M1, ρ1, o1, f1, e1, k⟩ => ssS_mono (k B1 H' σ' o1 e1 (tk_after tk f1)) (ends_after f1), fun _ _ q => q, fun _ _ q => q, fun _ _ q => q⟩)
theorem gs_break {pos : Pos} (h : D.bk ρ M) : GS X (.Break pos) ρ M D := fun B H σ ok env tk => sS_of ps_break ⟨B, M, ρ, ok, .refl, env, h⟩
theorem gs_cont {pos : Pos} (h : D.ct ρ M) : GS X (.Continue pos) ρ M D := fun B H σ ok env tk => sS_of ps_continue ⟨B, M, ρ, ok, .refl, env, h⟩
theorem gs_pass {pos : Pos} (h : D.nx ρ M) : GS X (.Pass pos) ρ M D := fun B H σ ok env tk => sS_of ps_pass ⟨B, M, ρ, ok, .refl, env, h⟩
/-- a, b = e1, e2 -/
theorem gs_par {i j : Nat} {x y : Str} {a b : Expr} {px py pt pt2 pos : Pos} {kt k2 : Nat} (hx : Var X i x) (hy : Var X j y) (hc : X.calm = true) (nd : X.N.Nodup) (hij : i ≠ j) (lx : X.env.scope.names.lookup x = some .local) (ly : X.env.scope.names.lookup y = some .local)
    (hs : swappedStores [.Tuple [.Name x px, .Name y py] kt pt] (.Tuple [a, b] k2 pt2) X.env = pure (some [x, y])) (hw : swapsWithSole [.Tuple [.Name x px, .Name y py] kt pt] (.Tuple [a, b] k2 pt2) pos.line X.env = pure false)
    (h : GA X [a, b] ρ M (fun rs M1 => ∃ r q, rs = [r, q] ∧ D.nx ((ρ.set i r).set j q) M1) D.xx) : GS X (.Assign [.Tuple [.Name x px, .Name y py] kt pt] (.Tuple [a, b] k2 pt2) pos) ρ M D := fun B H σ ok env tk =>
  sS_of (ps_par hc nd hx.n hy.n hij lx ly pa_S hs hw) (args h ok env tk fun vs H1 B1 M1 rs o1 f1 q1 ⟨r, q, e, k⟩ => by
    subst e
    cases q1 with
    | cons q1 q2 => cases q2 with
      | cons q2 q3 => cases q3; exact ⟨_, _, rfl, B1, M1, _, o1, f1, env_set (.some q2) j (env_set (.some q1) i (env_mono f1.ex env)), k⟩)
/-- a list that will not change any more: a ghost step -/
theorem gss_freeze {st : List Stmt} {M1 M2 : Mem} {a : Addr} {ds : List PyData} {i : Nat} (hi : ρ[i]? = some (.cell a)) (h : GSs X st (ρ.set i (.d (.list ds))) (M1 ++ M2) D) : GSs X st ρ (M1 ++ (a, Is (ds.map Rv.d)) :: M2) D := fun B H σ ok env tk => by
  obtain ⟨xs, rs, hx, hP, o1, f1⟩ := ok_freeze ok
  have e : rs = ds.map Rv.d := hP
  subst e
  obtain ⟨v, hv, hr⟩ := env_get i env hi rfl
  cases hr
  have env1 : EnvOk X.K (upd B a (.lst xs)) σ (ρ.set i (.d (.list ds))) := by
    have q := env_set (B := upd B a (.lst xs)) (.some (v := .ref a) (.d (.lst (.of upd_same) (dpAll_mono f1.ex _ hx.data)))) i (env_mono f1.ex env)
    have hl : i < σ.length := (List.getElem?_eq_some_iff.mp hv).1
    have e : σ.set i (some (.ref a)) = σ := by
      refine List.ext_getElem? fun j => ?_
      by_cases hj : i = j
      · subst hj; rw [List.getElem?_set_self hl, hv]
      · rw [List.getElem?_set_ne hj]
    rw [e] at q
    exact q
  exact ssS_mono (h _ H σ o1 env1 (tk_after tk f1)) (ends_after f1)
/-- .. at a value -/
theorem ge_freeze {e : Expr} (h : GE X e ρ M (fun r M1 => ∃ a ds Ma Mb, r = .cell a ∧ M1 = Ma ++ (a, Is (ds.map Rv.d)) :: Mb ∧ Φ (.d (.list ds)) (Ma ++ Mb)) Ξ) : GE X e ρ M Φ Ξ := fun B H σ ok env tk =>
  one h ok env tk fun v H1 B1 M1 r o1 f1 q1 ⟨a, ds, Ma, Mb, e1, e2, k⟩ => by
    subst e1 e2
    cases q1
    obtain ⟨xs, rs, hx, hP, o2, f2⟩ := ok_freeze o1
    have e : rs = ds.map Rv.d := hP
    subst e
    exact ⟨_, _, _, o2, f1.trans f2, .d (.lst (.of upd_same) (dpAll_mono f2.ex _ hx.data)), k⟩

/-! ## for -/
def iS (X : Cx) (tg iter : Expr) : TI := fun σ H R => ∀ (pins : List (Addr × Obj)) (s : Shared), Inv X pins σ H s →
  wpAny (model X.prog X.w) X.A (eval iter X.env) (fun v s1 => wpAny (model X.prog X.w) X.A (pyIter v) (PIE X pins σ tg R) X.xe s1) X.xe s
theorem pi_S {tg iter : Expr} : PI X tg iter (iS X tg iter) := ⟨fun pins s _ _ _ I h => h pins s I⟩
theorem iS_of {tg iter : Expr} {w : TI} (h : PI X tg iter w) {σ : Slots} {H : Hp} {R : It → Hp → Prop} (q : w σ H R) : iS X tg iter σ H R := fun pins s I => h.run pins s σ H R I q
theorem iS_mono {tg iter : Expr} {σ : Slots} {H : Hp} {R R' : It → Hp → Prop} (h : iS X tg iter σ H R) (k : ∀ J H', R J H' → R' J H') : iS X tg iter σ H R' := fun pins s I =>
  thn (h pins s I) fun v s1 q => thn q fun itv s2 ⟨it, fp, tn, J, H', a, b, c, d, e, r⟩ => ⟨it, fp, tn, J, H', a, b, c, d, e, k _ _ r⟩
/-- one turn of a walk gives the item r -/
def Step (K : Frg) (B1 : Hp) (r : Rv) (x : V) (H H' : Hp) : Prop := ∀ B M, Ok K B H M → Same B1 B → ∃ B', Ok K B' H' M ∧ Fr B H M B' H' M ∧ RvOk K B' x r
def Source (X : Cx) (B H : Hp) (M : Mem) (Θ : List Rv → Mem → Prop) (J : It) (H1 : Hp) : Prop :=
  ∃ B1 M1 items, Ok X.K B1 H1 M1 ∧ Fr B H M B1 H1 M1 ∧ Θ items M1 ∧ Walk J items.length (fun H => Same B1 H) (fun i H x H' => ∀ r, items[i]? = some r → Step X.K B1 r x H H')
def GI (X : Cx) (tg iter : Expr) (ρ : List Rv) (M : Mem) (Θ : List Rv → Mem → Prop) (Ξ : Xi) : Prop :=
  ∀ B H σ, Ok X.K B H M → EnvOk X.K B σ ρ → Takes X (PostX X.K B H M Ξ) → iS X tg iter σ H (Source X B H M Θ)
/-- the turns of a for -/
def ForD (X : Cx) (tg : Expr) (body : List Stmt) (D : DE) : List Rv → List Rv → Mem → Prop
  | [], ρ, M => D.nx ρ M
  | r :: rs, ρ, M => GG X tg r ρ M (fun ρ2 M2 => GSs X body ρ2 M2 { D with nx := ForD X tg body D rs, ct := ForD X tg body D rs, bk := D.nx }) []
theorem forD_at {tg : Expr} {body : List Stmt} : ∀ (items : List Rv) (i : Nat) (r : Rv), items[i]? = some r → ∀ ρ' M', ForD X tg body D (items.drop i) ρ' M' →
    GG X tg r ρ' M' (fun ρ2 M2 => GSs X body ρ2 M2 { D with nx := ForD X tg body D (items.drop (i + 1)), ct := ForD X tg body D (items.drop (i + 1)), bk := D.nx }) [] := by
  intro items i r h ρ' M' q
  have hl := (List.getElem?_eq_some_iff.mp h).1
  rw [List.drop_eq_getElem_cons hl] at q
  have e : items[i] = r := (List.getElem?_eq_some_iff.mp h).2
  rw [e] at q
  exact q
theorem gs_for {tg iter : Expr} {body : List Stmt} {pos : Pos} (hp : PassesOwn (model X.prog X.w) X.A X.env X.xe) (hc : X.calm = true) (hf : ∀ x, foldedSetIterable iter X.env x = pure x)
    (h : GI X tg iter ρ M (fun items M1 => ForD X tg body D items ρ M1) D.xx) : GS X (.For tg iter body [] pos) ρ M D := fun B H σ ok env tk => by
  refine sS_of (ps_for hp hc pi_S pg_S pss_S hf) ?_
  refine iS_mono (h B H σ ok env tk) fun J H1 ⟨B1, M1, items, o1, f1, hF, w⟩ => ?_
  refine for_it w (fun i σ' H' => PostN X.K B1 H1 M1 (ForD X tg body D (items.drop i)) σ' H') ⟨B1, M1, ρ, o1, .refl, env_mono f1.ex env, hF⟩ (fun i σ' H' _ ⟨B2, M2, ρ2, o2, f2, _, _⟩ => f2.ex.trans o2.ext)
    (fun i x σ' H2 H3 hi ⟨B2, M2, ρ2, o2, f2, e2, k⟩ y => ?_) (fun σ' H' q => ?_)
  · obtain ⟨r, hr⟩ : ∃ r, items[i]? = some r := ⟨items[i], by simp [hi]⟩
    obtain ⟨B3, o3, f3, q3⟩ := y r hr B2 M2 o2 f2.ex
    refine gS_mono (forD_at items i r hr ρ2 M2 k B3 H3 σ' x o3 (env_mono f3.ex e2) q3) fun σ4 H4 ⟨_, B4, M4, ρ4, o4, f4, e4, k4⟩ => ?_
    have f14 : Fr B1 H1 M1 B4 H4 M4 := (f2.trans f3).trans f4
    refine ssS_mono (k4 B4 H4 σ4 o4 e4 (tk_after tk (f1.trans f14))) ⟨fun _ _ => postN_after f14, fun _ _ => postE_after (f1.trans f14), fun _ _ => postN_after (f1.trans f14), fun _ _ => postN_after f14⟩
  · rw [List.drop_length] at q
    exact postN_after f1 q
theorem forD_map {α : Type} {tg : Expr} {body : List Stmt} {xs : List α} {g : α → Rv} (Iv : List α → List Rv → Mem → Prop) (h0 : Iv [] ρ M)
    (hs : ∀ pre x post ρ' M', xs = pre ++ x :: post → Iv pre ρ' M' → GG X tg (g x) ρ' M' (fun ρ2 M2 => GSs X body ρ2 M2 { D with nx := Iv (pre ++ [x]), ct := Iv (pre ++ [x]), bk := D.nx }) [])
    (hd : ∀ ρ' M', Iv xs ρ' M' → D.nx ρ' M') : ForD X tg body D (xs.map g) ρ M := by
  have main : ∀ (post pre : List α) ρ' M', xs = pre ++ post → Iv pre ρ' M' → ForD X tg body D (post.map g) ρ' M' := by
    intro post
    induction post with
    | nil => intro pre ρ' M' e q; rw [List.append_nil] at e; subst e; exact hd _ _ q
    | cons x post ih =>
      intro pre ρ' M' e q
      show GG _ _ _ _ _ _ _
      have k := hs pre x post ρ' M' e q
      intro B H σ v ok env r
      refine gS_mono (k B H σ v ok env r) fun σ' H' ⟨w, B2, M2, ρ2, o2, f2, e2, k2⟩ => ⟨w, B2, M2, ρ2, o2, f2, e2, ?_⟩
      intro B3 H3 σ3 o3 e3 t3
      refine ssS_mono (k2 B3 H3 σ3 o3 e3 t3) ⟨fun _ _ => postN_mono fun r M' z => ih (pre ++ [x]) r M' (by rw [e]; simp) z, fun _ _ z => z, fun _ _ z => z, fun _ _ => postN_mono fun r M' z => ih (pre ++ [x]) r M' (by rw [e]; simp) z⟩
  exact main xs [] ρ M rfl h0
/-! ### what is walked -/
theorem step_same {K : Frg} {B1 : Hp} {r : Rv} {x : V} {H : Hp} (h : RvOk K B1 x r) : Step K B1 r x H H := fun B M ok s => ⟨B, ok, .refl, rv_mono s h⟩
theorem gi_data {tg iter : Expr} {Θ : List Rv → Mem → Prop} (h : GE X iter ρ M (fun r M1 => ∃ ds, r = .d (.list ds) ∧ Θ (ds.map Rv.d) M1) Ξ) : GI X tg iter ρ M Θ Ξ := fun B H σ ok env tk =>
  iS_of (pi_list pe_S) (one h ok env tk fun v H1 B1 M1 r o1 f1 q1 ⟨ds, e, k⟩ => by
    subst e
    cases q1 with
    | d q1 => cases q1 with
      | lst hs ha =>
        rename_i a xs
        refine ⟨a, rfl, ⟨xs, o1.ext.seq hs⟩, B1, M1, _, o1, f1, k, ?_⟩
        rw [List.length_map, ← DpAll.len ha]
        refine walk_list.mono (fun H' s => s.seq hs) fun i H2 x H3 hi s y r hr => ?_
        obtain ⟨e3, hx⟩ := y
        subst e3
        rw [List.getElem?_map] at hr
        cases hd : ds[i]? with
        | none => rw [hd] at hr; cases hr
        | some d =>
          rw [hd] at hr; cases hr
          obtain ⟨v, h1, h2⟩ := DpAll.get i d ha hd
          rw [hx] at h1; cases h1
          exact step_same (.d h2))
theorem gi_tup {tg iter : Expr} {Θ : List Rv → Mem → Prop} (h : GE X iter ρ M (fun r M1 => ∃ ds, r = .d (.tuple ds) ∧ Θ (ds.map Rv.d) M1) Ξ) : GI X tg iter ρ M Θ Ξ := fun B H σ ok env tk =>
  iS_of (pi_tup pe_S) (one h ok env tk fun v H1 B1 M1 r o1 f1 q1 ⟨ds, e, k⟩ => by
    subst e
    cases q1 with
    | d q1 => cases q1 with
      | tup hs ha =>
        rename_i a xs
        refine ⟨a, rfl, ⟨xs, sq_mono o1.ext hs⟩, B1, M1, _, o1, f1, k, ?_⟩
        rw [List.length_map, ← DpAll.len ha]
        refine walk_tup.mono (fun H' s => sq_mono s hs) fun i H2 x H3 hi s y r hr => ?_
        obtain ⟨e3, hx⟩ := y
        subst e3
        rw [List.getElem?_map] at hr
        cases hd : ds[i]? with
        | none => rw [hd] at hr; cases hr
        | some d =>
          rw [hd] at hr; cases hr
          obtain ⟨v, h1, h2⟩ := DpAll.get i d ha hd
          rw [hx] at h1; cases h1
          exact step_same (.d h2))
theorem gi_range1 {tg a : Expr} {p pos : Pos} {Θ : List Rv → Mem → Prop} (hb : X.mg "range" = none) (hg : Gl X "range") (hs : starEach [a] X.env = [(false, eval a X.env)])
    (h : GA X [a] ρ M (fun rs M1 => ∃ j : Int, rs = [.d (.int j)] ∧ -(2 ^ 62) ≤ j ∧ j < 2 ^ 62 ∧ Θ ((List.range j.toNat).map fun i => .d (.int (i : Nat))) M1) Ξ) : GI X tg (.Call (.Name "range" p) [a] [] pos) ρ M Θ Ξ := fun B H σ ok env tk =>
  iS_of (pi_range1 hg hb pa_S hs) (args h ok env tk fun vs H1 B1 M1 rs o1 f1 q1 ⟨j, e, hj1, hj2, k⟩ => by
    subst e
    cases q1 with
    | cons q q' =>
      cases q'
      refine ⟨j, by rw [int_of q], hj1, hj2, B1, M1, _, o1, f1, k, ?_⟩
      rw [List.length_map, List.length_range]
      refine walk_range.mono (fun _ _ => trivial) fun i H2 x H3 hi s y r hr => ?_
      obtain ⟨e3, hx⟩ := y
      subst e3 hx
      rw [List.getElem?_map, List.getElem?_range hi] at hr
      cases hr
      exact step_same (by show RvOk X.K B1 (V.int (0 + (i : Int))) _; rw [Int.zero_add]; exact .d (.int _)))
theorem pairStep {K : Frg} {B1 : Hp} {p q : Rv} {dp dq : PyData} {x y : V} {H : Hp} {T : Addr} (hT : H T = none) (hx : Dp K B1 x dp) (hy : Dp K B1 y dq) : Step K B1 (.d (.tuple [dp, dq])) (.ref T) H (upd H T (.tup [x, y])) := fun B M ok s => by
  have f := ok_frz (o := .tup [x, y]) ok hT
  exact ⟨_, f.1, f.2, .d (.tup (.of upd_same) (.cons (dp_mono (s.trans f.2.ex) _ hx) (.cons (dp_mono (s.trans f.2.ex) _ hy) .nil)))⟩
theorem gi_zip {e e2 : Expr} {p pos tpos : Pos} {elts : List Expr} {kk : Nat} {Θ : List Rv → Mem → Prop} (hb : X.mg "zip" = none) (hg : Gl X "zip") (hs : starEach [e, e2] X.env = (false, eval e X.env) :: starEach [e2] X.env) (hpl : (backTo pos (starEach [e2] X.env)).any (·.1) = false)
    (h : GA X [e, e2] ρ M (fun rs M1 => ∃ xs ys, rs = [.d (.list xs), .d (.list ys)] ∧ Θ ((xs.zip ys).map fun p => .d (.tuple [p.1, p.2])) M1) Ξ) : GI X (.Tuple elts kk tpos) (.Call (.Name "zip" p) [e, e2] [] pos) ρ M Θ Ξ := fun B H σ ok env tk =>
  iS_of (pi_zip hg hb pa_S hs hpl) (args h ok env tk fun vs H1 B1 M1 rs o1 f1 q1 ⟨ds, es, e, k⟩ => by
    subst e
    cases q1 with
    | cons q q' => cases q' with
      | cons q2 q3 =>
        cases q3
        cases q with
        | d q => cases q with
          | lst ha hda => cases q2 with
            | d q2 => cases q2 with
              | lst hb hdb =>
                rename_i a xs b ys
                refine ⟨a, b, xs, ys, rfl, o1.ext.seq ha, o1.ext.seq hb, B1, M1, _, o1, f1, k, ?_⟩
                rw [List.length_map, List.length_zip, ← DpAll.len hda, ← DpAll.len hdb]
                refine (walk_zip rfl).mono (fun H' s => ⟨s.seq ha, s.seq hb⟩) fun i H2 x H3 hi s y r hr => ?_
                obtain ⟨T, x1, y1, ev, hT, e3, h1, h2⟩ := y
                subst ev e3
                have l1 : i < ds.length := by rw [← DpAll.len hda]; omega
                have l2 : i < es.length := by rw [← DpAll.len hdb]; omega
                have hr' : r = .d (.tuple [ds[i], es[i]]) := by
                  rw [List.getElem?_map, List.getElem?_eq_getElem (by rw [List.length_zip]; omega), List.getElem_zip] at hr
                  exact (Option.some.inj hr).symm
                subst hr'
                obtain ⟨v1, g1, k1⟩ := DpAll.get i ds[i] hda (List.getElem?_eq_getElem l1)
                obtain ⟨v2, g2, k2⟩ := DpAll.get i es[i] hdb (List.getElem?_eq_getElem l2)
                cases (show some x1 = some v1 from h1.symm.trans g1)
                cases (show some y1 = some v2 from h2.symm.trans g2)
                exact pairStep (p := .any) (q := .any) hT k1 k2)
theorem gi_enum {e : Expr} {p pos tpos : Pos} {elts : List Expr} {kk : Nat} {Θ : List Rv → Mem → Prop} (hb : X.mg "enumerate" = none) (hg : Gl X "enumerate") (hs : starEach [e] X.env = [(false, eval e X.env)])
    (h : GA X [e] ρ M (fun rs M1 => ∃ xs, rs = [.d (.list xs)] ∧ Θ (xs.zipIdx.map fun p => .d (.tuple [.int (p.2 : Nat), p.1])) M1) Ξ) : GI X (.Tuple elts kk tpos) (.Call (.Name "enumerate" p) [e] [] pos) ρ M Θ Ξ := fun B H σ ok env tk =>
  iS_of (pi_enum hg hb pa_S hs) (args h ok env tk fun vs H1 B1 M1 rs o1 f1 q1 ⟨ds, e, k⟩ => by
    subst e
    cases q1 with
    | cons q q' =>
      cases q'
      cases q with
      | d q => cases q with
        | lst ha hda =>
          rename_i a xs
          refine ⟨a, xs, rfl, o1.ext.seq ha, B1, M1, _, o1, f1, k, ?_⟩
          rw [List.length_map, List.length_zipIdx, ← DpAll.len hda]
          refine walk_enum.mono (fun H' s => s.seq ha) fun i H2 x H3 hi s y r hr => ?_
          obtain ⟨T, x1, y1, ev, hT, e3, h1, h2⟩ := y
          subst ev e3
          have l1 : i < ds.length := by rw [← DpAll.len hda]; omega
          have hr' : r = .d (.tuple [.int (i : Nat), ds[i]]) := by
            rw [List.getElem?_map, List.getElem?_zipIdx, List.getElem?_eq_getElem l1] at hr
            simpa using (Option.some.inj hr).symm
          subst hr'
          obtain ⟨v1, g1, k1⟩ := DpAll.get i ds[i] hda (List.getElem?_eq_getElem l1)
          cases (show some y1 = some v1 from h2.symm.trans g1)
          cases (show some (V.int (i : Nat)) = some x1 from h1)
          exact pairStep (p := .any) (q := .any) hT (.int _) k1)
end
end Dl

set_option Elab.async false
set_option linter.all false
set_option maxRecDepth 100000
set_option maxHeartbeats 4000000
namespace Dl
open PySem PySem.Spec PyProof.Rows L2

/-! ## what a def promises -/
abbrev Prom := List Rv → Mem → Pst → (EV → Mem → Prop) → Prop
def PostF (K : Frg) (B H : Hp) (M : Mem) (Ξ : EV → Mem → Prop) : XK := fun cls d H' => ∃ B' M' x, Ok K B' H' M' ∧ Fr B H M B' H' M' ∧ EvOk K B' H' x cls d ∧ Ξ x M'
def SpD (K : Frg) (pd : Prom) : Sp := fun vs H Q E => ∃ B M rs Φ Ξ, Ok K B H M ∧ RvAll K B vs rs ∧ pd rs M Φ Ξ ∧ (∀ v H', PostE K B H M Φ v H' → Q v H') ∧ ∀ cls d H', PostF K B H M Ξ cls d H' → E cls d H'
structure FnD (P : Program) (w : World) (K : Frg) (mg : Str → Option Value) (base : Heap) (k : Nat) (f : Addr) (fd : FuncData) (ps : List Str) (pd : Prom) : Prop where
  len : ∀ rs M Φ Ξ, pd rs M Φ Ξ → rs.length = ps.length
  run : ∀ (A : Around) (outer : List Env) (s : Shared) (H : Hp) (ar : Args) (us : List Value) (vs : List V) (Q : VK) (E : XK), Room k A → A.guards = some [] → Env0 P w K mg base A outer s H →
    BindsTo s fd ar (ps.zip us) → Vals vs us → SpD K pd vs H Q E → codeAny (model P w) A (.call (.ref f) ar) (CR (L2.CX P w) outer P w H s Q E) s
theorem FnD.mono {P : Program} {w : World} {K : Frg} {mg : Str → Option Value} {base : Heap} {j k : Nat} {f : Addr} {fd : FuncData} {ps : List Str} {pd : Prom} (F : FnD P w K mg base j f fd ps pd) (h : j ≤ k) : FnD P w K mg base k f fd ps pd :=
  ⟨F.len, fun A outer s H ar us vs Q E hr => F.run A outer s H ar us vs Q E (hr.mono h)⟩
/-- what the body's walk is given -/
structure Cxt (X : Cx) (N : List Str) (sc : Scope) : Prop where
  hN : X.N = N
  sc : X.env.scope = sc
  nd : X.N.Nodup
  calm : X.calm = true
  fn : ∀ x, X.fn x = true
  hs : X.stack = X.env :: X.outer
  hf : X.env.frame = some X.env.locals
  pass : PassesOwn (model X.prog X.w) X.A X.env X.xe
  gu : X.A.guards = some []
theorem env_of_all {K : Frg} {B : Hp} : ∀ {vs : List V} {rs : List Rv} (h : RvAll K B vs rs), EnvOk K B (vs.map some) rs
  | _, _, .nil => .nil
  | _, _, .cons h a => .cons (.some h) (env_of_all a)
theorem env_append {K : Frg} {B : Hp} : ∀ {σ τ : Slots} {ρ κ : List Rv}, EnvOk K B σ ρ → EnvOk K B τ κ → EnvOk K B (σ ++ τ) (ρ ++ κ)
  | _, _, _, _, .nil, h => h
  | _, _, _, _, .cons h a, b => .cons h (env_append a b)
theorem env_blank {K : Frg} {B : Hp} : ∀ (ex : List Rv), (ex.all Rv.isAny) = true → EnvOk K B (List.replicate ex.length none) ex
  | [], _ => .nil
  | r :: ex, h => by
    rw [List.all_cons, Bool.and_eq_true] at h
    refine .cons ?_ (env_blank ex h.2)
    cases r with
    | any => exact .none1
    | mu => exact .none2
    | d _ => cases h.1
    | cell _ => cases h.1
    | tup _ => cases h.1
    | raw _ => cases h.1
section
variable {P : Program} {w : World} {K : Frg} {mg : Str → Option Value} {base : Heap}
/-- THE RULE for a def: from its body's walk -/
theorem Fun.okD {x qual : Str} {st : Stmt} {f : Addr} {fd : FuncData} {N ps : List Str} {k : Nat} {pd : Prom} (ex : List Rv) (F : L2.Fun K x qual st f fd) (S : FnScope N ps (defScope st))
    (hex : ex.length = N.length - ps.length) (hany : ex.all Rv.isAny = true) (len : ∀ rs M Φ Ξ, pd rs M Φ Ξ → rs.length = ps.length)
    (hbody : ∀ X : Cx, X.prog = P → X.w = w → X.K = K → X.mg = mg → X.base = base → Cxt X N (defScope st) → Room k X.A → ∀ rs M Φ Ξ, pd rs M Φ Ξ →
      GSs X (defBody st) (rs ++ ex) M { nx := fun _ M' => Φ (.d .none) M', rt := Φ, xx := fun x _ M' => Ξ x M' }) : FnD P w K mg base (k + 1) f fd ps pd := by
  obtain ⟨oc, od, kV, doc, pm, an, cdv, ct, osl, rfl, lk, hcd⟩ := F.ex
  refine ⟨len, fun A outer s H ar us vs Q E hr hgu e0 hb r hsp => ?_⟩
  obtain ⟨B, M, rs, Φ, Ξ, ok, ra, hpd, hQ, hE⟩ := hsp
  have hl : vs.length = ps.length := ra.length.trans (len _ _ _ _ hpd)
  have inH : K.In s.heap := e0.mod.kin.keeps fun b o e => (e0.bs b o e).1
  have lim : s.heap.NoLimit := e0.mod.nolimit.keeps fun b o e => (e0.bs b o e).1
  refine codeAny_call_function hr.depth (inH _ _ lk) rfl S.co S.gen rfl (PySem.W.codeRec_of inH hcd) (hb _ _ _ _ ?_)
  refine wpAny_newFunctionEnv_cells S.kind (fun y hy => ?_) fun env he s1 xx => ?_
  · rcases S.par y.1 (List.of_mem_zip hy).1 with q | q
    · exact .inl q
    · exact .inr ⟨q, PySem.W.cellsFrom_some _ _ _ (.inl q)⟩
  subst he
  refine ⟨lim.keeps xx.toInCall.keep, codeAny_func ?_⟩
  have I := inv_start (CX := L2.CX P w) (mg := mg) (base := base) (E := E) S hr.hd e0 hl r xx
  let X : Cx := cxOf (L2.CX P w) P w K mg base N qual (defScope st) f cdv A outer s H E
  have cx : Cxt X N (defScope st) := ⟨rfl, rfl, S.nd, rfl, fun _ => rfl, rfl, rfl, passes_of rfl, hgu⟩
  have tk : Takes X (PostX K B H M (fun x _ M' => Ξ x M')) := (takes_of (X := X) (E := E) rfl rfl rfl rfl).imp fun c d σ H' ⟨B', M', ρ', x, o, f, e, v, q⟩ => hE c d H' ⟨B', M', x, o, f, v, q⟩
  have env0 : EnvOk K B (L2.start N vs) (rs ++ ex) := by
    refine env_append (env_of_all ra) ?_
    rw [hl, ← hex]
    exact env_blank ex hany
  have run := hbody X rfl rfl rfl rfl rfl cx (hr.deeper _) rs M Φ Ξ hpd B H (L2.start N vs) ok env0 tk [] s1 I
  refine wpAny_mono run (fun fl s' hs => ?_) fun e s' hs => hs
  have fin : ∀ {σ' : Slots} {H' : Hp} {v : V} {u : Value}, Inv X [] σ' H' s' → RelV v u → Q v H' → CE outer P w H s Q u s' := fun J rv q => ⟨_, _, J.os, J.bare, J.base, J.hok, rv, q⟩
  cases fl with
  | ret u => exact let ⟨v, σ', H', J, rv, q⟩ := hs; fin J rv (hQ _ _ q)
  | next => exact let ⟨σ', H', J, B', M', ρ', o, g, e, q⟩ := hs; fin (v := V.non) (u := Value.none) J rfl (hQ _ _ ⟨B', M', .d .none, o, g, .d .non, q⟩)
  | brk => exact let ⟨_, _, _, _, _, _, _, _, _, q⟩ := hs; q.elim
  | cont => exact let ⟨_, _, _, _, _, _, _, _, _, q⟩ := hs; q.elim
end

/-! ## calls -/
section
variable {X : Cx} {ρ : List Rv} {M : Mem} {Φ : Pst} {Ξ : Xi} {D : DE}
/-- the keywords' values in the parameters' order -/
def pick {α : Type} (ks ps : List Str) (ws : List α) : List α := ps.filterMap fun p => (ks.zip ws).lookup p
/-- a def that may be called by the name x; ord: the orders of keywords in which it is called -/
structure Def (X : Cx) (x : Str) (k : Nat) (ps : List Str) (ord : List (List Str)) (pd : Prom) : Prop where
  ex : ∃ f fd, FnD X.prog X.w X.K X.mg X.base k f fd ps pd ∧ X.mg x = some (.ref f) ∧ PySem.W.keepIn X.K (.ref f) = true ∧
    (∀ us : List Value, us.length = ps.length → bindArgs fd ⟨us, []⟩ = pure (ps.zip us)) ∧
    ∀ ks ∈ ord, ∀ ws : List Value, ws.length = ks.length → bindArgs fd ⟨[], ks.zip ws⟩ = pure (ps.zip (pick ks ps ws))
  d : (x == ("__debug__" : Str)) = false
theorem Def.mono {x : Str} {j k : Nat} {ps : List Str} {ord : List (List Str)} {pd : Prom} (d : Def X x j ps ord pd) (h : j ≤ k) : Def X x k ps ord pd :=
  ⟨let ⟨f, fd, F, r⟩ := d.ex; ⟨f, fd, F.mono h, r⟩, d.d⟩
theorem lookup_rel {α β : Type} {R : α → β → Prop} (p : Str) : ∀ {ks : List Str} {xs : List α} {ys : List β}, Paired R xs ys → (∀ y, (ks.zip ys).lookup p = some y → ∃ x, (ks.zip xs).lookup p = some x ∧ R x y) ∧ ((ks.zip ys).lookup p = none → (ks.zip xs).lookup p = none)
  | [], _, _, _ => ⟨fun _ h => by simp at h, fun _ => rfl⟩
  | k :: ks, _, _, .nil => ⟨fun _ h => by simp at h, fun _ => rfl⟩
  | k :: ks, _, _, .cons (a := x) (b := y) r t => by
    have ih := lookup_rel p (ks := ks) t
    rw [List.zip_cons_cons, List.zip_cons_cons, List.lookup_cons, List.lookup_cons]
    cases e : p == k with
    | true => exact ⟨fun z h => ⟨_, rfl, by cases h; exact r⟩, fun h => by cases h⟩
    | false => exact ih
theorem pick_rel {α β : Type} {R : α → β → Prop} {ks : List Str} {xs : List α} {ys : List β} (h : Paired R xs ys) : ∀ ps : List Str, Paired R (pick ks ps xs) (pick ks ps ys)
  | [] => .nil
  | p :: ps => by
    have ih := pick_rel (ks := ks) h ps
    have l := lookup_rel p (ks := ks) h
    unfold pick at ih ⊢
    rw [List.filterMap_cons, List.filterMap_cons]
    cases e : (ks.zip ys).lookup p with
    | none => rw [l.2 e]; exact ih
    | some y =>
      obtain ⟨x, e2, r⟩ := l.1 y e
      rw [e2]
      exact .cons r ih
theorem RvAll.pair {K : Frg} {B : Hp} : ∀ {vs : List V} {rs : List Rv}, RvAll K B vs rs → Paired (RvOk K B) vs rs
  | _, _, .nil => .nil
  | _, _, .cons h a => .cons h (RvAll.pair a)
theorem RvAll.ofPair {K : Frg} {B : Hp} : ∀ {vs : List V} {rs : List Rv}, Paired (RvOk K B) vs rs → RvAll K B vs rs
  | _, _, .nil => .nil
  | _, _, .cons h a => .cons h (RvAll.ofPair a)
theorem run_D {pins : List (Addr × Obj)} {σ : Slots} {B H : Hp} {s : Shared} {k : Nat} {f : Addr} {fd : FuncData} {ps : List Str} {pd : Prom} {ar : Args} {us : List Value} {vs : List V} {rs : List Rv} (F : FnD X.prog X.w X.K X.mg X.base k f fd ps pd) (hr : Room k X.A) (hg : X.A.guards = some [])
    (hb : BindsTo s fd ar (ps.zip us)) (I : Inv X pins σ H s) (ok : Ok X.K B H M) (env : EnvOk X.K B σ ρ) (tk : Takes X (PostX X.K B H M Ξ)) (r : Vals vs us) (ra : RvAll X.K B vs rs) (h : pd rs M Φ (fun x M' => Ξ x ρ M')) :
    codeAny (model X.prog X.w) X.A (.call (.ref f) ar) (fun r s' => match r with | .ok (.ret u) => EP X pins σ (PostE X.K B H M Φ) u s' | .ok _ => False | .error e => X.xe e s') s := by
  have hE : ∀ cls d H', PostF X.K B H M (fun x M' => Ξ x ρ M') cls d H' → PostX X.K B H M Ξ cls d σ H' := fun cls d H' ⟨B', M', x, o, g, v, q⟩ => ⟨B', M', ρ, x, o, g, env_mono g.ex env, v, q⟩
  refine codeAny_mono (F.run X.A X.stack s H ar us vs (PostE X.K B H M Φ) (fun cls d H' => PostX X.K B H M Ξ cls d σ H') hr hg I.env0 hb r ⟨B, M, rs, Φ, _, ok, ra, h, fun _ _ q => q, hE⟩) fun res s' hq => ?_
  cases res with
  | error e => exact tk e s' (XE.of_call I (fun cls d H' q => q) hq)
  | ok fl =>
    cases fl with
    | ret u => exact I.after hq
    | next => exact hq.elim
    | brk => exact hq.elim
    | cont => exact hq.elim
theorem ge_call {x : Str} {k : Nat} {ps : List Str} {ord : List (List Str)} {pd : Prom} {e : Expr} {es : List Expr} {p pos : Pos} (Df : Def X x k ps ord pd) (hr : Room k X.A) (hgu : X.A.guards = some []) (hg : Gl X x)
    (he : starEach (e :: es) X.env = (false, eval e X.env) :: starEach es X.env) (hpl : (backTo pos (starEach es X.env)).any (·.1) = false)
    (h : GA X (e :: es) ρ M (fun rs M1 => pd rs M1 Φ (fun x M2 => Ξ x ρ M2)) Ξ) : GE X (.Call (.Name x p) (e :: es) [] pos) ρ M Φ Ξ := fun B H σ ok env tk => by
  obtain ⟨⟨f, fd, F, hm, hk, hb, _⟩, hdb⟩ := Df
  intro pins s I
  refine wpAny_Call_Name_kw (ld_glob I hg hm ?_ hdb)
  refine PySem.W.callWith_K (h₀ := X.base) I.ok.mod.kin hk (thn (args h ok env tk (Q := fun vs H1 => ∃ B1 M1 rs, Ok X.K B1 H1 M1 ∧ Fr B H M B1 H1 M1 ∧ RvAll X.K B1 vs rs ∧ pd rs M1 Φ (fun x M2 => Ξ x ρ M2)) (fun vs H1 B1 M1 rs o1 f1 q1 k => ⟨B1, M1, rs, o1, f1, q1, k⟩) pos pins s I)
    fun us s1 ⟨vs, H1, I1, r, B1, M1, rs, o1, f1, q1, q⟩ => ⟨I1.kIn, ?_⟩) he hpl
  have hl : us.length = ps.length := by rw [← r.length, q1.length]; exact F.len _ _ _ _ q
  refine wpAny_call (codeAny_mono (run_D F hr hgu (.of_eq (hb us hl)) I1 o1 (env_mono f1.ex env) (tk_after tk f1) r q1 q) fun res s' hq => ?_)
  cases res with
  | error e => exact hq
  | ok fl =>
    cases fl with
    | ret u => obtain ⟨v, H', I', rv, z⟩ := hq; exact ⟨v, H', I', rv, postE_after f1 z⟩
    | next => exact hq.elim
    | brk => exact hq.elim
    | cont => exact hq.elim
/-- keywords' values, from the left -/
def kS (X : Cx) (kws : List Keyword) : TA := fun σ H Q => ∀ (pos : Pos) (pins : List (Addr × Obj)) (s : Shared), Inv X pins σ H s → wpAny (model X.prog X.w) X.A (evalAll ((backToKw pos (keywordEach kws X.env)).map (·.2))) (AP X pins σ Q) X.xe s
def GK (X : Cx) (kws : List Keyword) (ρ : List Rv) (M : Mem) (Ψ : List Rv → Mem → Prop) (Ξ : Xi) : Prop :=
  ∀ B H σ, Ok X.K B H M → EnvOk X.K B σ ρ → Takes X (PostX X.K B H M Ξ) → kS X kws σ H (PostA X.K B H M Ψ)
theorem gk_nil {Ψ : List Rv → Mem → Prop} (h : Ψ [] M) : GK X [] ρ M Ψ Ξ := fun B H σ ok env tk pos pins s I => pk_nil.run pos pins s σ H _ I ⟨B, M, [], ok, .refl, .nil, h⟩
theorem gk_cons {nm : Option Str} {e : Expr} {kpos : Pos} {kws : List Keyword} {Ψ : List Rv → Mem → Prop} (h : GE X e ρ M (fun r M1 => GK X kws ρ M1 (fun rs M2 => Ψ (r :: rs) M2) Ξ) Ξ) : GK X (⟨nm, e, kpos⟩ :: kws) ρ M Ψ Ξ :=
  fun B H σ ok env tk pos pins s I => (pk_cons (pe_S (e := e)) (⟨fun pos pins s σ H Q I h => h pos pins s I⟩ : PK X kws (kS X kws))).run pos pins s σ H _ I
    (one h ok env tk fun v H1 B1 M1 r o1 f1 q1 ha pos pins s I => thn (ha B1 H1 σ o1 (env_mono f1.ex env) (tk_after tk f1) pos pins s I) fun us s' ⟨vs, H2, I2, rv, B2, M2, rs, o2, f2, q2, k⟩ =>
      ⟨vs, H2, I2, rv, B2, M2, r :: rs, o2, f1.trans f2, .cons (rv_mono f2.ex q1) q2, k⟩)
/-- f(k = v, ..), keywords alone -/
theorem ge_callK {x : Str} {k : Nat} {ps ks : List Str} {ord : List (List Str)} {pd : Prom} {kws : List Keyword} {p pos : Pos} (Df : Def X x k ps ord pd) (hr : Room k X.A) (hgu : X.A.guards = some []) (hg : Gl X x) (hks : (backToKw pos (keywordEach kws X.env)).filterMap (·.1) = ks) (ho : ks ∈ ord)
    (hall : (backToKw pos (keywordEach kws X.env)).all (·.1.isSome) = true) (hpl : ((backTo pos (starEach [] X.env)).any (·.1) || (backToKw pos (keywordEach kws X.env)).any (·.1.isNone)) = false)
    (h : GK X kws ρ M (fun rs M1 => rs.length = ks.length ∧ pd (pick ks ps rs) M1 Φ (fun x M2 => Ξ x ρ M2)) Ξ) : GE X (.Call (.Name x p) [] kws pos) ρ M Φ Ξ := fun B H σ ok env tk => by
  obtain ⟨⟨f, fd, F, hm, hk, _, hb⟩, hdb⟩ := Df
  intro pins s I
  refine wpAny_Call_Name_kw (ld_glob I hg hm ?_ hdb)
  refine PySem.W.callWith_KW0 (h₀ := X.base) I.ok.mod.kin hk hall (thn (h B H σ ok env tk pos pins s I) fun us s1 ⟨vs, H1, I1, r, B1, M1, rs, o1, f1, q1, el, q⟩ => ⟨I1.kIn, ?_⟩) hpl
  rw [hks]
  have e1 : us.length = ks.length := by rw [← r.length, q1.length, el]
  show wpAny _ _ (call (.ref f) ([] ++ []) (ks.zip us)) _ _ _
  refine wpAny_call (codeAny_mono (run_D (us := pick ks ps us) (vs := pick ks ps vs) F hr hgu (.of_eq (hb ks ho us e1)) I1 o1 (env_mono f1.ex env) (tk_after tk f1) (pick_rel r ps) (.ofPair (pick_rel q1.pair ps)) q) fun res s' hq => ?_)
  cases res with
  | error e => exact hq
  | ok fl =>
    cases fl with
    | ret u => obtain ⟨v, H', I', rv, z⟩ := hq; exact ⟨v, H', I', rv, postE_after f1 z⟩
    | next => exact hq.elim
    | brk => exact hq.elim
    | cont => exact hq.elim
end
end Dl

set_option Elab.async false
set_option linter.all false
set_option maxRecDepth 100000
set_option maxHeartbeats 4000000
namespace Dl
open PySem PySem.Spec PyProof.Rows L2
section
variable {X : Cx} {ρ : List Rv} {M : Mem} {Φ : Pst} {Ξ : Xi} {D : DE}

/-! ## items, slices -/
/-- the kind is known ahead: a list, a tuple, a list that may change -/
theorem ge_ixL {a b : Expr} {pos : Pos} (hp : PlainIx b) (ha : GE X a ρ M (fun x M1 => GE X b ρ M1 (fun y M2 => ∃ ds i d, x = .d (.list ds) ∧ y = .d (.int i) ∧ atI ds i = some d ∧ Φ (.d d) M2) Ξ) Ξ) : GE X (.Subscript a b pos) ρ M Φ Ξ := fun B H σ ok env tk =>
  eS_of (pe_ix ix_list pe_S pe_S hp) (one ha ok env tk fun v H1 B1 M1 r o1 f1 q1 hb => one hb o1 (env_mono f1.ex env) (tk_after tk f1) fun w H2 B2 M2 r2 o2 f2 q2 ⟨ds, i, d, e1, e2, e3, k⟩ => by
    subst e1 e2
    cases q1 with
    | d q1 => cases q1 with
      | lst hs ha =>
        rename_i p xs
        obtain ⟨j, hj⟩ : ∃ j, ixN ds.length i = some j ∧ ds[j]? = some d := by
          unfold atI at e3
          exact Option.bind_eq_some_iff.mp e3
        obtain ⟨x, h1, h2⟩ := DpAll.get j d ha hj.2
        refine ⟨p, xs, i, x, rfl, int_of q2, o2.ext.seq (f2.ex.seq hs), ?_, B2, M2, .d d, o2, f1.trans f2, .d (dp_mono f2.ex _ h2), k⟩
        unfold atI
        rw [DpAll.len ha, hj.1]
        exact h1)
theorem ge_ixT {a b : Expr} {pos : Pos} (hp : PlainIx b) (ha : GE X a ρ M (fun x M1 => GE X b ρ M1 (fun y M2 => ∃ ds i d, x = .d (.tuple ds) ∧ y = .d (.int i) ∧ atI ds i = some d ∧ Φ (.d d) M2) Ξ) Ξ) : GE X (.Subscript a b pos) ρ M Φ Ξ := fun B H σ ok env tk =>
  eS_of (pe_ix ix_tup pe_S pe_S hp) (one ha ok env tk fun v H1 B1 M1 r o1 f1 q1 hb => one hb o1 (env_mono f1.ex env) (tk_after tk f1) fun w H2 B2 M2 r2 o2 f2 q2 ⟨ds, i, d, e1, e2, e3, k⟩ => by
    subst e1 e2
    cases q1 with
    | d q1 => cases q1 with
      | tup hs ha =>
        rename_i p xs
        obtain ⟨j, hj⟩ : ∃ j, ixN ds.length i = some j ∧ ds[j]? = some d := by
          unfold atI at e3
          exact Option.bind_eq_some_iff.mp e3
        obtain ⟨x, h1, h2⟩ := DpAll.get j d ha hj.2
        refine ⟨p, xs, i, x, rfl, int_of q2, sq_mono o2.ext (sq_mono f2.ex hs), ?_, B2, M2, .d d, o2, f1.trans f2, .d (dp_mono f2.ex _ h2), k⟩
        unfold atI
        rw [DpAll.len ha, hj.1]
        exact h1)
/-- a tuple that holds lists that may change -/
theorem ge_ixU {a b : Expr} {pos : Pos} (hp : PlainIx b) (ha : GE X a ρ M (fun x M1 => GE X b ρ M1 (fun y M2 => ∃ rs i r, x = .tup rs ∧ y = .d (.int i) ∧ atI rs i = some r ∧ Φ r M2) Ξ) Ξ) : GE X (.Subscript a b pos) ρ M Φ Ξ := fun B H σ ok env tk =>
  eS_of (pe_ix ix_tup pe_S pe_S hp) (one ha ok env tk fun v H1 B1 M1 r o1 f1 q1 hb => one hb o1 (env_mono f1.ex env) (tk_after tk f1) fun w H2 B2 M2 r2 o2 f2 q2 ⟨ds, i, d, e1, e2, e3, k⟩ => by
    subst e1 e2
    cases q1 with
    | tup hs ha =>
        rename_i p xs
        obtain ⟨j, hj⟩ : ∃ j, ixN ds.length i = some j ∧ ds[j]? = some d := by
          unfold atI at e3
          exact Option.bind_eq_some_iff.mp e3
        obtain ⟨x, h1, h2⟩ := RvAll.get j d ha hj.2
        refine ⟨p, xs, i, x, rfl, int_of q2, sq_mono o2.ext (sq_mono f2.ex hs), ?_, B2, M2, d, o2, f1.trans f2, rv_mono f2.ex h2, k⟩
        unfold atI
        rw [ha.length, hj.1]
        exact h1)
/-- an item of a list that may change -/
theorem ge_ixC {a b : Expr} {pos : Pos} (hp : PlainIx b) (ha : GE X a ρ M (fun x M1 => GE X b ρ M1 (fun y M2 => ∃ (p : Addr) (P : List Rv → Prop) (i : Int), x = .cell p ∧ (p, P) ∈ M2 ∧ y = .d (.int i) ∧ (∀ rs, P rs → ∃ r, atI rs i = some r ∧ Φ r M2)) Ξ) Ξ) : GE X (.Subscript a b pos) ρ M Φ Ξ := fun B H σ ok env tk =>
  eS_of (pe_ix ix_list pe_S pe_S hp) (one ha ok env tk fun v H1 B1 M1 r o1 f1 q1 hb => one hb o1 (env_mono f1.ex env) (tk_after tk f1) fun w H2 B2 M2 r2 o2 f2 q2 ⟨p, P, i, e1, hm, e2, k⟩ => by
    subst e1 e2
    cases q1
    obtain ⟨_, xs, rs, hH, hx, hP⟩ := o2.mem _ hm
    obtain ⟨r, e3, k⟩ := k rs hP
    obtain ⟨j, hj⟩ : ∃ j, ixN rs.length i = some j ∧ rs[j]? = some r := by
      unfold atI at e3
      exact Option.bind_eq_some_iff.mp e3
    obtain ⟨x, h1, h2⟩ := RvAll.get j r hx hj.2
    refine ⟨p, xs, i, x, rfl, int_of q2, .of hH, ?_, B2, M2, r, o2, f1.trans f2, h2, k⟩
    unfold atI
    rw [hx.length, hj.1]
    exact h1)
def pS (X : Cx) (e : Option Expr) : TO := fun σ H Q => ∀ (pins : List (Addr × Obj)) (s : Shared), Inv X pins σ H s → wpAny (model X.prog X.w) X.A (evalPart e X.env) (fun u s' => ∃ o H', Inv X pins σ H' s' ∧ IsPart u o ∧ Q o H') X.xe s
theorem po_S {e : Option Expr} : PO X e (pS X e) := ⟨fun pins s _ _ _ I h => h pins s I⟩
theorem pS_of {e : Option Expr} {t : TO} (h : PO X e t) {σ : Slots} {H : Hp} {Q : Option Int → Hp → Prop} (q : t σ H Q) : pS X e σ H Q := fun pins s I => h.run pins s σ H Q I q
theorem pS_mono {e : Option Expr} {σ : Slots} {H : Hp} {Q Q' : Option Int → Hp → Prop} (h : pS X e σ H Q) (k : ∀ v H', Q v H' → Q' v H') : pS X e σ H Q' := fun pins s I =>
  thn (h pins s I) fun u s' ⟨o, H', I', r, q⟩ => ⟨o, H', I', r, k _ _ q⟩
def GO (X : Cx) (e : Option Expr) (ρ : List Rv) (M : Mem) (Ψ : Option Int → Mem → Prop) (Ξ : Xi) : Prop :=
  ∀ B H σ, Ok X.K B H M → EnvOk X.K B σ ρ → Takes X (PostX X.K B H M Ξ) → pS X e σ H fun o H' => ∃ B' M', Ok X.K B' H' M' ∧ Fr B H M B' H' M' ∧ Ψ o M'
theorem go_none {Ψ : Option Int → Mem → Prop} (h : Ψ none M) : GO X none ρ M Ψ Ξ := fun B H σ ok env tk => pS_of po_none ⟨B, M, ok, .refl, h⟩
theorem go_some {e : Expr} {Ψ : Option Int → Mem → Prop} (h : GE X e ρ M (fun r M1 => ∃ i : Int, r = .d (.int i) ∧ Ψ (some i) M1) Ξ) : GO X (some e) ρ M Ψ Ξ := fun B H σ ok env tk =>
  pS_of (po_some pe_S) (one h ok env tk fun v H1 B1 M1 r o1 f1 q1 ⟨i, e, k⟩ => by
    subst e
    exact ⟨i, int_of q1, B1, M1, o1, f1, k⟩)
theorem cut_dp {K : Frg} {B : Hp} {xs : List V} {ds : List PyData} (h : DpAll K B xs ds) (a n : Nat) : DpAll K B ((xs.drop a).take n) ((ds.drop a).take n) := by
  have hd : ∀ (a : Nat) {xs : List V} {ds : List PyData}, DpAll K B xs ds → DpAll K B (xs.drop a) (ds.drop a) := by
    intro a
    induction a with
    | zero => intro xs ds h; exact h
    | succ a ih =>
      intro xs ds h
      cases h with
      | nil => exact .nil
      | cons _ t => exact ih t
  have ht : ∀ (n : Nat) {xs : List V} {ds : List PyData}, DpAll K B xs ds → DpAll K B (xs.take n) (ds.take n) := by
    intro n
    induction n with
    | zero => intro xs ds h; exact .nil
    | succ n ih =>
      intro xs ds h
      cases h with
      | nil => exact .nil
      | cons h t => exact .cons h (ih t)
  exact ht n (hd a h)
/-- the slice lo .. hi of a list -/
def cutD {α : Type} (xs : List α) (lo hi : Option Int) : List α := (xs.drop (HT.sIx xs.length 0 lo)).take (HT.sIx xs.length xs.length hi - HT.sIx xs.length 0 lo)
theorem ge_slice {e : Expr} {lo hi : Option Expr} {pos p2 : Pos} (h : GE X e ρ M (fun x M1 => GO X lo ρ M1 (fun l M2 => GO X hi ρ M2 (fun u M3 => ∃ ds, x = .d (.list ds) ∧ Φ (.d (.list (cutD ds l u))) M3) Ξ) Ξ) Ξ) : GE X (.Subscript e (.Slice lo hi none p2) pos) ρ M Φ Ξ := fun B H σ ok env tk =>
  eS_of (pe_slice sl_list pe_S po_S po_S) (one h ok env tk fun v H1 B1 M1 r o1 f1 q1 hb => pS_mono (hb B1 H1 σ o1 (env_mono f1.ex env) (tk_after tk f1)) fun l H2 ⟨B2, M2, o2, f2, hc⟩ =>
    pS_mono (hc B2 H2 σ o2 (env_mono (f1.trans f2).ex env) (tk_after tk (f1.trans f2))) fun u H3 ⟨B3, M3, o3, f3, ds, e, k⟩ => by
      subst e
      cases q1 with
      | d q1 => cases q1 with
        | lst hs ha =>
          rename_i a xs
          have f23 := f2.trans f3
          refine ⟨a, xs, rfl, o3.ext.seq (f23.ex.seq hs), fun p hp => postE_after (f1.trans f23) (post_frz o3 hp (.d (.lst (.of upd_same) ?_)) k)⟩
          refine dpAll_mono (f23.ex.trans (same_new (sub_none o3.ext hp))) _ ?_
          have z := cut_dp ha (HT.sIx xs.length 0 l) (HT.sIx xs.length xs.length u - HT.sIx xs.length 0 l)
          unfold cutV cutD
          rw [DpAll.len ha] at z ⊢
          exact z)
/-- a slice of a list that may change: a new list that won't -/
theorem ge_sliceC {e : Expr} {lo hi : Option Expr} {pos p2 : Pos} (h : GE X e ρ M (fun x M1 => GO X lo ρ M1 (fun l M2 => GO X hi ρ M2 (fun u M3 => ∃ (p : Addr) (P : List Rv → Prop), x = .cell p ∧ (p, P) ∈ M3 ∧ ∀ rs, P rs → ∃ ds : List PyData, rs = ds.map Rv.d ∧ Φ (.d (.list (cutD ds l u))) M3) Ξ) Ξ) Ξ) : GE X (.Subscript e (.Slice lo hi none p2) pos) ρ M Φ Ξ := fun B H σ ok env tk =>
  eS_of (pe_slice sl_list pe_S po_S po_S) (one h ok env tk fun v H1 B1 M1 r o1 f1 q1 hb => pS_mono (hb B1 H1 σ o1 (env_mono f1.ex env) (tk_after tk f1)) fun l H2 ⟨B2, M2, o2, f2, hc⟩ =>
    pS_mono (hc B2 H2 σ o2 (env_mono (f1.trans f2).ex env) (tk_after tk (f1.trans f2))) fun u H3 ⟨B3, M3, o3, f3, p, P, e, hm, k⟩ => by
      subst e
      cases q1
      obtain ⟨_, xs, rs, hH, hx, hP⟩ := o3.mem _ hm
      obtain ⟨ds, e, k⟩ := k rs hP
      subst e
      have ha := hx.data
      refine ⟨p, xs, rfl, .of hH, fun q hq => postE_after (f1.trans (f2.trans f3)) (post_frz o3 hq (.d (.lst (.of upd_same) ?_)) k)⟩
      refine dpAll_mono (same_new (sub_none o3.ext hq)) _ ?_
      have z := cut_dp ha (HT.sIx xs.length 0 l) (HT.sIx xs.length xs.length u - HT.sIx xs.length 0 l)
      unfold cutV cutD
      rw [DpAll.len ha] at z ⊢
      exact z)

/-! ## lists that change -/
theorem ge_append {o e : Expr} {apos cpos : Pos} (h1 : attributeBase o "append" X.env (eval o X.env) = eval o X.env)
    (h2 : ((backTo cpos (starEach [e] X.env)).all (!·.1) && (backToKw cpos (keywordEach [] X.env)).all (·.1.isSome) && decide (([e] : List Expr).length + ([] : List Keyword).length + (if ([] : List Keyword).isEmpty = true then 0 else 1) < 30)) = true)
    (h3 : (apos.endLine == cpos.line) = true) (h4 : starEach [e] X.env = (false, eval e X.env) :: starEach [] X.env) (h5 : (backTo cpos (starEach [] X.env)).any (·.1) = false)
    (h : GE X o ρ M (fun x M1 => ∃ p P, x = .cell p ∧ (p, P) ∈ M1 ∧ GE X e ρ M1 (fun r M2 => ∃ rs Ma Mb, M2 = Ma ++ (p, Is rs) :: Mb ∧ rs.length < sizeLine ∧ Φ (.d .none) (Ma ++ (p, Is (rs ++ [r])) :: Mb)) Ξ) Ξ) :
    GE X (.Call (.Attribute o "append" apos) [e] [] cpos) ρ M Φ Ξ := fun B H σ ok env tk =>
  eS_of (pe_bm PySem.F.plainAttrs_list PySem.F.slot_list_append PySem.F.type_list_append mt_append pe_S (pa_cons pe_S pa_nil h4) h1 h2 h3 h4 h5)
    (one h ok env tk fun v H1 B1 M1 x o1 f1 q1 ⟨p, P, e1, hm, he⟩ => by
      subst e1
      cases q1
      obtain ⟨_, xs, _, hH, _, _⟩ := o1.mem _ hm
      refine ⟨.inl ⟨rfl, xs, .of hH⟩, ?_⟩
      refine one he o1 (env_mono f1.ex env) (tk_after tk f1) fun w H2 B2 M2 r o2 f2 q2 ⟨rs, Ma, Mb, e2, hl, k⟩ => ?_
      subst e2
      obtain ⟨_, ys, rs', hH2, hx, hP⟩ := o2.mem (p, Is rs) (by simp)
      have e3 : rs' = rs := hP
      subst e3
      refine ⟨p, ys, w, rfl, rfl, hH2, by rw [hx.length]; exact hl, ?_⟩
      have z := ok_mut (P' := Is (rs' ++ [r])) (rs := rs' ++ [r]) o2 (RvAll.app hx (.cons q2 .nil)) rfl
      exact ⟨B2, _, .d .none, z.1, (f1.trans f2).trans z.2, .d .non, k⟩)
/-- xs[i] = e -/
theorem gs_setix {o i e : Expr} {p1 pos : Pos} (h1 : swapsWithSole [.Subscript o i p1] e pos.line X.env = pure false) (h2 : swappedStores [.Subscript o i p1] e X.env = pure none) (h3 : (assignEach [.Subscript o i p1] X.env).map (·.2) = [assign (.Subscript o i p1) X.env])
    (h4 : ∀ v, assign (.Subscript o i p1) X.env v = (do let ov ← holding [v] (eval o X.env); let iv ← holding [v, ov] (eval i X.env); standAt p1; holding [v, ov, iv] (setItem ov iv v); release [v, ov, iv] []))
    (h : GE X e ρ M (fun r M1 => GE X o ρ M1 (fun x M2 => GE X i ρ M2 (fun y M3 => ∃ p rs Ma Mb k j, x = .cell p ∧ y = .d (.int k) ∧ M3 = Ma ++ (p, Is rs) :: Mb ∧ ixN rs.length k = some j ∧ D.nx ρ (Ma ++ (p, Is (rs.set j r)) :: Mb)) D.xx) D.xx) D.xx) :
    GS X (.Assign [.Subscript o i p1] e pos) ρ M D := fun B H σ ok env tk =>
  sS_of (ps_asg pe_S (pg_sub pe_S pe_S set_list h4) h1 h2 h3) (one h ok env tk fun v H1 B1 M1 r o1 f1 q1 ho => one ho o1 (env_mono f1.ex env) (tk_after tk f1) fun w H2 B2 M2 x o2 f2 q2 hi =>
    one hi o2 (env_mono (f1.trans f2).ex env) (tk_after tk (f1.trans f2)) fun u H3 B3 M3 y o3 f3 q3 ⟨p, rs, Ma, Mb, k, j, e1, e2, e3, hj, z⟩ => by
      subst e1 e2 e3
      cases q2
      obtain ⟨_, ys, rs', hH, hx, hP⟩ := o3.mem (p, Is rs) (by simp)
      have e4 : rs' = rs := hP
      subst e4
      refine ⟨p, ys, k, j, rfl, int_of q3, hH, by rw [hx.length]; exact hj, ?_⟩
      have set : ∀ (j : Nat) {vs : List V} {qs : List Rv}, RvAll X.K B3 vs qs → RvAll X.K B3 (vs.set j v) (qs.set j r) := by
        intro j
        induction j with
        | zero => intro vs qs h; cases h with
          | nil => exact .nil
          | cons _ t => exact .cons (rv_mono (f2.trans f3).ex q1) t
        | succ j ih => intro vs qs h; cases h with
          | nil => exact .nil
          | cons h t => exact .cons h (ih t)
      have z2 := ok_mut (P' := Is (rs'.set j r)) (rs := rs'.set j r) o3 (set j hx) rfl
      have f := ((f1.trans f2).trans f3).trans z2.2
      exact ⟨B3, _, ρ, z2.1, f, env_mono f.ex env, z⟩)
/-- the content of a list that may change is looked at -/
theorem gss_open {st : List Stmt} {Ma Mb : Mem} {c : Addr} {P : List Rv → Prop} (h : ∀ rs, P rs → GSs X st ρ (Ma ++ (c, Is rs) :: Mb) D) : GSs X st ρ (Ma ++ (c, P) :: Mb) D := fun B H σ ok env tk => by
  obtain ⟨b, xs, rs, hH, hx, hP⟩ := ok.mem (c, P) (by simp)
  have keys : ((Ma ++ (c, Is rs) :: Mb).map (·.1)) = ((Ma ++ (c, P) :: Mb).map (·.1)) := by simp
  have sub : ∀ q ∈ Ma ++ (c, Is rs) :: Mb, q = (c, Is rs) ∨ q ∈ Ma ++ (c, P) :: Mb := fun q hq => by
    rcases List.mem_append.mp hq with h | h
    · exact .inr (by simp [h])
    · rcases List.mem_cons.mp h with h | h
      · exact .inl h
      · exact .inr (by simp [h])
  have o1 : Ok X.K B H (Ma ++ (c, Is rs) :: Mb) := ⟨ok.ext, fun q hq => by
    rcases sub q hq with rfl | h
    · exact ⟨b, xs, rs, hH, hx, rfl⟩
    · exact ok.mem q h, by rw [keys]; exact ok.nd⟩
  have f1 : Fr B H (Ma ++ (c, P) :: Mb) B H (Ma ++ (c, Is rs) :: Mb) := ⟨Same.refl _, fun _ _ h b _ => ⟨h, b⟩, fun q hq => by
    rcases sub q hq with rfl | h
    · exact .inl ⟨(c, P), by simp, rfl⟩
    · exact .inl ⟨q, h, rfl⟩, fun _ h => h⟩
  exact ssS_mono (h rs hP B H σ o1 env (tk_after tk f1)) (ends_after f1)
theorem ok_weak {K : Frg} {B H : Hp} {Ma Mb : Mem} {c : Addr} {P P' : List Rv → Prop} (hP : ∀ rs, P rs → P' rs) (ok : Ok K B H (Ma ++ (c, P) :: Mb)) : Ok K B H (Ma ++ (c, P') :: Mb) ∧ Fr B H (Ma ++ (c, P) :: Mb) B H (Ma ++ (c, P') :: Mb) := by
  have sub : ∀ q ∈ Ma ++ (c, P') :: Mb, q = (c, P') ∨ q ∈ Ma ++ (c, P) :: Mb := fun q hq => by
    rcases List.mem_append.mp hq with h | h
    · exact .inr (by simp [h])
    · rcases List.mem_cons.mp h with h | h
      · exact .inl h
      · exact .inr (by simp [h])
  refine ⟨⟨ok.ext, fun q hq => ?_, ?_⟩, ⟨Same.refl _, fun _ _ h b _ => ⟨h, b⟩, fun q hq => ?_, fun _ h => h⟩⟩
  · rcases sub q hq with rfl | h
    · obtain ⟨b, xs, rs, hH, hx, z⟩ := ok.mem (c, P) (by simp)
      exact ⟨b, xs, rs, hH, hx, hP rs z⟩
    · exact ok.mem q h
  · have z := ok.nd
    simpa using z
  · rcases sub q hq with rfl | h
    · exact .inl ⟨(c, P), by simp, rfl⟩
    · exact .inl ⟨q, h, rfl⟩
/-- .. is forgotten again, behind a value -/
theorem ge_close {e : Expr} {c : Addr} {P : List Rv → Prop} (h : GE X e ρ M (fun r M1 => ∃ rs Ma Mb, M1 = Ma ++ (c, Is rs) :: Mb ∧ P rs ∧ Φ r (Ma ++ (c, P) :: Mb)) Ξ) : GE X e ρ M Φ Ξ := fun B H σ ok env tk =>
  one h ok env tk fun v H1 B1 M1 r o1 f1 q1 ⟨rs, Ma, Mb, e, hP, k⟩ => by
    subst e
    have z := ok_weak (P' := P) (fun x (hx : x = rs) => by rw [hx]; exact hP) o1
    exact ⟨B1, _, r, z.1, f1.trans z.2, q1, k⟩
theorem gss_close {st : List Stmt} {c : Addr} {rs : List Rv} {Ma Mb : Mem} (P : List Rv → Prop) (hP : P rs) (h : GSs X st ρ (Ma ++ (c, P) :: Mb) D) : GSs X st ρ (Ma ++ (c, Is rs) :: Mb) D := fun B H σ ok env tk => by
  have z := ok_weak (P' := P) (fun x (hx : x = rs) => by rw [hx]; exact hP) ok
  exact ssS_mono (h B H σ z.1 env (tk_after tk z.2)) (ends_after z.2)

/-! ## built-ins by values -/
theorem ge_ty {x : Str} {n : String} {pos : Pos} (hb : Bi X x (.type n)) (hg : Gl X x) (h : Φ (.raw (.ty n)) M) : GE X (.Name x pos) ρ M Φ Ξ := fun B H σ ok env tk =>
  eS_of (pe_bltn (v := .ty n) hg hb.m hb.b rfl hb.n hb.d) (post_same ok (.raw _) h)
theorem gc_lenL {ds : List PyData} (h : Φ (.d (.int ds.length)) M) : GC X (.builtin "len") [.d (.list ds)] M Φ := gc_mk call_len_seq fun B H vs ok a => by
  cases a with
  | cons q t => cases t; cases q with
    | d q => cases q with
      | lst hs ha => exact ⟨_, _, rfl, .inl (ok.ext.seq hs), by rw [DpAll.len ha]; exact post_same ok (.d (.int _)) h⟩
theorem gc_lenT {ds : List PyData} (h : Φ (.d (.int ds.length)) M) : GC X (.builtin "len") [.d (.tuple ds)] M Φ := gc_mk call_len_seq fun B H vs ok a => by
  cases a with
  | cons q t => cases t; cases q with
    | d q => cases q with
      | tup hs ha => exact ⟨_, _, rfl, .inr (sq_mono ok.ext hs), by rw [DpAll.len ha]; exact post_same ok (.d (.int _)) h⟩
theorem gc_lenC {p : Addr} {P : List Rv → Prop} (hm : (p, P) ∈ M) (h : ∀ rs, P rs → Φ (.d (.int rs.length)) M) : GC X (.builtin "len") [.cell p] M Φ := gc_mk call_len_seq fun B H vs ok a => by
  cases a with
  | cons q t =>
    cases t; cases q
    obtain ⟨_, xs, rs, hH, hx, hP⟩ := ok.mem _ hm
    exact ⟨_, _, rfl, .inl (.of hH), by rw [hx.length]; exact post_same ok (.d (.int _)) (h rs hP)⟩
theorem vals_int1 {K : Frg} {B : Hp} {vs : List V} {i : Int} (a : RvAll K B vs [.d (.int i)]) : vs = [.int i] := by
  cases a with | cons q t => cases t; rw [int_of q]
theorem vals_int2 {K : Frg} {B : Hp} {vs : List V} {i j : Int} (a : RvAll K B vs [.d (.int i), .d (.int j)]) : vs = [.int i, .int j] := by
  cases a with | cons q t => cases t with | cons q2 t => cases t; rw [int_of q, int_of q2]
theorem gc_abs {i : Int} (h : Φ (.d (.int (i.natAbs : Nat))) M) : GC X (.builtin "abs") [.d (.int i)] M Φ := gc_mk call_abs fun B H vs ok a => by
  rw [vals_int1 a]
  refine ⟨i, rfl, ?_⟩
  have e : (if i < 0 then -i else i) = (i.natAbs : Int) := by split <;> omega
  rw [e]
  exact post_same ok (.d (.int _)) h
theorem gc_max {i j : Int} (hc : X.calm = true) (h : Φ (.d (.int (max i j))) M) : GC X (.builtin "max") [.d (.int i), .d (.int j)] M Φ := gc_mk (call_max2 hc) fun B H vs ok a => by
  rw [vals_int2 a]
  refine ⟨i, j, rfl, ?_⟩
  have e : (if j > i then j else i) = max i j := by split <;> omega
  rw [e]
  exact post_same ok (.d (.int _)) h
theorem gc_min {i j : Int} (hc : X.calm = true) (h : Φ (.d (.int (min i j))) M) : GC X (.builtin "min") [.d (.int i), .d (.int j)] M Φ := gc_mk (call_min2 hc) fun B H vs ok a => by
  rw [vals_int2 a]
  refine ⟨i, j, rfl, ?_⟩
  have e : (if j < i then j else i) = min i j := by split <;> omega
  rw [e]
  exact post_same ok (.d (.int _)) h
theorem gc_int {i : Int} (h : Φ (.d (.int i)) M) : GC X (.type "int") [.d (.int i)] M Φ := gc_mk call_int1 fun B H vs ok a => .inl ⟨i, vals_int1 a, post_same ok (.d (.int _)) h⟩
theorem gc_intB {k : Bool} (h : Φ (.d (.int (if k = true then 1 else 0))) M) : GC X (.type "int") [.d (.bool k)] M Φ := gc_mk call_int1 fun B H vs ok a => .inr ⟨k, by cases a with | cons q t => cases t; rw [bool_of q], post_same ok (.d (.int _)) h⟩
theorem dp_ints {K : Frg} {B : Hp} : ∀ {vs : List V} (ns : List Int), DpAll K B vs (ns.map PyData.int) → vs = ns.map V.int
  | _, [], h => by cases h; rfl
  | _, n :: ns, h => by
    cases h with
    | cons h t => cases h; rw [dp_ints ns t]; rfl
theorem dp_bools {K : Frg} {B : Hp} : ∀ {vs : List V} (ns : List Bool), DpAll K B vs (ns.map PyData.bool) → vs = ns.map V.bl
  | _, [], h => by cases h; rfl
  | _, n :: ns, h => by
    cases h with
    | cons h t => cases h; rw [dp_bools ns t]; rfl
theorem gc_sum {ns : List Int} (hc : X.calm = true) (h : Φ (.d (.int ns.sum)) M) : GC X (.builtin "sum") [.d (.list (ns.map PyData.int))] M Φ := gc_mk (cr_sum hc) fun B H vs ok a => by
  cases a with
  | cons q t => cases t; cases q with
    | d q => cases q with
      | lst hs ha =>
        have e := dp_ints ns ha
        subst e
        exact ⟨_, ns, rfl, ok.ext.seq hs, post_same ok (.d (.int _)) h⟩
theorem gc_all {bs : List Bool} (hc : X.calm = true) (h : Φ (.d (.bool (bs.all id))) M) : GC X (.builtin "all") [.d (.list (bs.map PyData.bool))] M Φ := gc_mk (cr_all hc) fun B H vs ok a => by
  cases a with
  | cons q t => cases t; cases q with
    | d q => cases q with
      | lst hs ha =>
        have e := dp_bools bs ha
        subst e
        exact ⟨_, bs, rfl, ok.ext.seq hs, post_same ok (.d (.bl _)) h⟩
/-- list(xs), to be changed -/
theorem gc_listO {ds : List PyData} (h : ∀ p, Φ (.cell p) ((p, Is (ds.map Rv.d)) :: M)) : GC X (.type "list") [.d (.list ds)] M Φ := gc_mk call_list_of fun B H vs ok a => by
  cases a with
  | cons q t => cases t; cases q with
    | d q => cases q with
      | lst hs ha => exact ⟨_, _, rfl, .inl (ok.ext.seq hs), fun l hl => post_own (P := Is (ds.map Rv.d)) ok hl (RvAll.ofData ha) rfl (h l)⟩
theorem gc_list {ds : List PyData} (h : Φ (.d (.list ds)) M) : GC X (.type "list") [.d (.list ds)] M Φ := gc_mk call_list_of fun B H vs ok a => by
  cases a with
  | cons q t => cases t; cases q with
    | d q => cases q with
      | lst hs ha => exact ⟨_, _, rfl, .inl (ok.ext.seq hs), fun l hl => post_frz ok hl (.d (.lst (.of upd_same) (dpAll_mono (same_new (sub_none ok.ext hl)) _ ha))) h⟩
theorem gc_listT {ds : List PyData} (h : Φ (.d (.list ds)) M) : GC X (.type "list") [.d (.tuple ds)] M Φ := gc_mk call_list_of fun B H vs ok a => by
  cases a with
  | cons q t => cases t; cases q with
    | d q => cases q with
      | tup hs ha => exact ⟨_, _, rfl, .inr (sq_mono ok.ext hs), fun l hl => post_frz ok hl (.d (.lst (.of upd_same) (dpAll_mono (same_new (sub_none ok.ext hl)) _ ha))) h⟩
/-! isinstance -/
def tyN : PyData → String
  | .none => "NoneType" | .bool _ => "bool" | .int _ => "int" | .str _ => "str" | .list _ => "list" | .tuple _ => "tuple" | .dict _ => "dict"
theorem ty_of {K : Frg} {H : Hp} {v : V} : ∀ {d : PyData}, Dp K H v d → TyX K H v (.type (tyN d))
  | _, .non => .base .non
  | _, .bl b => .base (.bl b)
  | _, .int i => .base (.int i)
  | _, .str x => .base (.str x)
  | _, .lst (.inl (.inl h)) _ => .base (.lst h)
  | _, .lst (.inl (.inr ⟨_, h⟩)) _ => .base (.frz h)
  | _, .lst (.inr ⟨_, _, _, h, c, _⟩) _ => .kList h c
  | _, .tup (.inl (.inl h)) _ => .base (.tup h)
  | _, .tup (.inl (.inr ⟨_, h⟩)) _ => .fTuple h
  | _, .tup (.inr ⟨_, _, _, h, c, _⟩) _ => .kTuple h c
theorem gc_isi {d : PyData} {T : String} {b : Bool} (hk : kitB (tyN d) T = some b) (h : Φ (.d (.bool b)) M) : GC X (.builtin "isinstance") [.d d, .raw (.ty T)] M Φ := gc_mk call_isi fun B H vs ok a => by
  cases a with
  | cons q t => cases t with
    | cons q2 t =>
      cases t; cases q2
      cases q with
      | d q => exact ⟨_, _, _, _, b, rfl, .ty T, ty_of (dp_mono ok.ext _ q), kit_ty hk, post_same ok (.d (.bl b)) h⟩
/-! repr -/
mutual
theorem noDict {K : Frg} {H : Hp} : ∀ {v : V} (d : PyData), Dp K H v d → d.hasDict = false
  | _, .none, _ => by simp [PyData.hasDict]
  | _, .bool _, _ => by simp [PyData.hasDict]
  | _, .int _, _ => by simp [PyData.hasDict]
  | _, .str _, _ => by simp [PyData.hasDict]
  | _, .list ds, .lst _ a => by simp only [PyData.hasDict]; exact noDictAll ds a
  | _, .tuple ds, .tup _ a => by simp only [PyData.hasDict]; exact noDictAll ds a
theorem noDictAll {K : Frg} {H : Hp} : ∀ {vs : List V} (ds : List PyData), DpAll K H vs ds → PyData.hasDictAll ds = false
  | _, [], _ => by simp [PyData.hasDictAll]
  | _, d :: ds, .cons h t => by simp only [PyData.hasDictAll, noDict d h, noDictAll ds t, Bool.or_self]
end
/-- repr of a list, a tuple -/
def rRepr (K : Frg) (d : PyData) : List V → Hp → VK → Prop := fun vs H Q => ∃ a, vs = [.ref a] ∧ Dp K H (.ref a) d ∧ Q (.str d.shown) H
theorem call_repr {d : PyData} (hg : X.A.guards = some []) (hs : d.showable = true) (hu : X.A.units + (d.depth + 1) < cLine) (hz : d.shown.length ≤ sizeLine) : CallR X (.builtin "repr") (rRepr X.K d) := by
  intro pins s σ H vs us Q I r h
  obtain ⟨a, rfl, hd, q⟩ := h
  obtain ⟨u, rfl, ru⟩ := vals1 r
  cases ru
  obtain ⟨as, rd⟩ := Dp.reads I d (.ref a) (.ref a) hd rfl
  exact repr_of_reads' rd hs (PyData.noDict_hsm (noDict d hd)) hg hu (fun _ _ e => e) (fun h' u tk hk => ⟨.str d.shown, H, I.kept hk, ⟨_, rfl⟩, q⟩) hz
theorem gc_repr {d : PyData} (hd : (match d with | .list _ => true | .tuple _ => true | _ => false) = true) (hg : X.A.guards = some []) (hs : d.showable = true) (hu : X.A.units + (d.depth + 1) < cLine) (hz : d.shown.length ≤ sizeLine) (h : Φ (.d (.str d.shown)) M) :
    GC X (.builtin "repr") [.d d] M Φ := gc_mk (call_repr hg hs hu hz) fun B H vs ok a => by
  cases a with
  | cons q t =>
    cases t
    cases q with
    | d q =>
      have q' := dp_mono ok.ext _ q
      cases q with
      | lst _ _ => exact ⟨_, rfl, q', post_same ok (.d (.str _)) h⟩
      | tup _ _ => exact ⟨_, rfl, q', post_same ok (.d (.str _)) h⟩
      | non => cases hd
      | bl _ => cases hd
      | int _ => cases hd
      | str _ => cases hd
/-! powers, lists joined -/
def CPowW (i j : Int) : Prop := 0 ≤ j ∧ (Builtin.Int.intBits i : Int) * j ≤ 2 ^ 27
theorem op_powW : OpR X (binaryOp .Pow) (rI CPowW fun i j => .int (i ^ j.toNat)) := by
  intro pins s σ H x y v u Q I rx ry h
  obtain ⟨i, j, rfl, rfl, hc, q⟩ := h
  obtain ⟨t, rfl⟩ := rx
  obtain ⟨t', rfl⟩ := ry
  exact PyProof.Rows.pow_int hc.1 hc.2 ⟨.int _, H, I.tok _, ⟨_, rfl⟩, q⟩
theorem g2_pow {i : Int} {n : Nat} {r : Int} (hc : CPowW i n) (e : i ^ n = r) (h : Φ (.d (.int r)) M) : G2 X (binaryOp .Pow) (.d (.int i)) (.d (.int (n : Nat))) M Φ := g2_I op_powW (d := .int r) (fun K H => by rw [Int.toNat_natCast, e]; exact .int _) hc h
def rCatS (K : Frg) : R2 := fun x y H Q => ∃ l b xs zs, x = .ref l ∧ y = .ref b ∧ SqL K H l xs ∧ SqL K H b zs ∧ xs.length + zs.length ≤ sizeLine ∧ ∀ p, H p = none → Q (.ref p) (upd H p (.lst (xs ++ zs)))
theorem op_catS : OpR X (binaryOp .Add) (rCatS X.K) := by
  intro pins s σ H x y v u Q I rx ry h
  obtain ⟨l, b, xs, zs, rfl, rfl, hL, hB, hz, q⟩ := h
  cases rx
  cases ry
  obtain ⟨its, r1, ⟨⟨c1, d1, dt1, s1⟩, n1, e1, hc1, hd1, hq1⟩, _⟩ := I.list hL
  obtain ⟨its2, r2, ⟨⟨c2, d2, dt2, s2⟩, n2, e2, hc2, hd2, hq2⟩, _⟩ := I.list hB
  simp only at hc1 hd1 hq1 hc2 hd2 hq2
  subst hc1 hd1 hq1 hc2 hd2 hq2
  have ea : its.toArray ++ its2.toArray = (its ++ its2).toArray := by simp
  refine concat_meets ⟨_, e1, rfl⟩ ⟨_, e2, rfl⟩ noFill_list_add seq_list_add PySem.F.slot_list_add PySem.F.entry_list_add (PySem.F.args_list_add_2 _ _) (list_addW l b its.toArray its2.toArray n1 n2 none none s1 s2 (by rw [List.size_toArray, List.size_toArray, ← r1.length, ← r2.length]; exact hz)) ⟨e1, e2, ?_⟩
  rw [ea]
  exact ⟨.ref _, _, I.lnew (t' := s.toks) (r1.append r2) (by rw [List.length_append]; omega), rfl, q _ I.fresh⟩
theorem g2_cat {ds es : List PyData} (hz : ds.length + es.length ≤ sizeLine) (h : Φ (.d (.list (ds ++ es))) M) : G2 X (binaryOp .Add) (.d (.list ds)) (.d (.list es)) M Φ := g2_mk op_catS fun B H v w ok a b => by
  cases a with
  | d a => cases a with
    | lst ha da => cases b with
      | d b => cases b with
        | lst hb db =>
          refine ⟨_, _, _, _, rfl, rfl, ok.ext.seq ha, ok.ext.seq hb, by rw [DpAll.len da, DpAll.len db]; exact hz, fun p hp => post_frz ok hp (.d (.lst (.of upd_same) ?_)) h⟩
          exact dpAll_mono (same_new (sub_none ok.ext hp)) _ (DpAll.app da db)

/-! ## comprehensions -/
def wipeR (ρ : List Rv) : List Nat → List Rv
  | [] => ρ
  | v :: vs => (wipeR ρ vs).set v .any
theorem env_wipe {K : Frg} {B : Hp} {σ : Slots} {ρ : List Rv} (h : EnvOk K B σ ρ) : ∀ vs : List Nat, EnvOk K B (wipe σ vs) (wipeR ρ vs)
  | [] => h
  | v :: vs => env_set .none1 v (env_wipe h vs)
/-- tests of a comprehension -/
def GTs (X : Cx) (ifs : List Expr) (ρ : List Rv) (M : Mem) (Ψ : Bool → Mem → Prop) (Ξ : Xi) : Prop :=
  match ifs with
  | [] => Ψ true M
  | [c] => GT X c ρ M Ψ Ξ
  | _ => False
/-- in any block of the comprehension -/
def AllB (X : Cx) (scope : Scope) (P : Cx → Prop) : Prop := ∀ (s : Shared) (H : Hp) (C : Addr) (cl : List (Str × Addr)) (fp : List Addr), P (X.blk s H scope (compEnvC scope cl C X.env) fp)
/-- the turns of a comprehension: F is wanted of what is made -/
def CompD (X : Cx) (tg elt : Expr) (ifs : List Expr) (scope : Scope) (vs : List Nat) (ρ : List Rv) (F : List Rv → Mem → Prop) : List Rv → List Rv → Mem → Prop
  | [], acc, M => F acc M
  | r :: rs, acc, M => acc.length < sizeLine ∧ AllB X scope fun X1 => GG X1 tg r (wipeR ρ vs) M (fun ρ2 M2 => AllB X scope fun X2 => GTs X2 ifs ρ2 M2 (fun b M3 =>
        (b = true → AllB X scope fun X3 => GE X3 elt ρ2 M3 (fun y M4 => CompD X tg elt ifs scope vs ρ F rs (acc ++ [y]) M4) X0) ∧ (b = false → CompD X tg elt ifs scope vs ρ F rs acc M3)) X0) vs
structure At (B H : Hp) (M : Mem) (L : Addr) (xs : List V) : Prop where
  h : H L = some (.lst xs)
  b : B L = none
  m : ∀ p ∈ M, p.1 ≠ L
theorem At.step {B H B1 H1 : Hp} {M M1 : Mem} {L : Addr} {xs : List V} (a : At B H M L xs) (f : Fr B H M B1 H1 M1) : At B1 H1 M1 L xs :=
  ⟨(f.out L _ a.h a.b a.m).1, (f.out L _ a.h a.b a.m).2, fun p hp e => by
    rcases f.new p hp with ⟨q, hq, e2⟩ | e2
    · exact a.m q hq (e2.trans e)
    · rw [e, a.h] at e2; cases e2⟩
theorem At.set {K : Frg} {B H : Hp} {M : Mem} {L : Addr} {xs ys : List V} (a : At B H M L xs) (ok : Ok K B H M) : Ok K B (upd H L (.lst ys)) M ∧ At B (upd H L (.lst ys)) M L ys :=
  ⟨⟨fun x u e => by rw [upd_ne (ne_of_none e a.b)]; exact ok.ext x u e, fun q hq => by
    obtain ⟨h1, vs, rs, h2, h3, h4⟩ := ok.mem q hq
    exact ⟨h1, vs, rs, by rw [upd_ne (a.m q hq)]; exact h2, h3, h4⟩, ok.nd⟩, upd_same, a.b, a.m⟩
theorem fr_set {B H B1 H1 : Hp} {M M1 : Mem} {L : Addr} {o : HO} (f : Fr B H M B1 H1 M1) (hL : H L = none) : Fr B H M B1 (upd H1 L o) M1 :=
  ⟨f.ex, fun a u h b m => by
    have z := f.out a u h b m
    exact ⟨by rw [upd_ne (ne_of_none h hL)]; exact z.1, z.2⟩, f.new, fun a h => by
    by_cases e : a = L
    · subst e; exact hL
    · rw [upd_ne e] at h; exact f.grow a h⟩
theorem tk0 {B H : Hp} : Takes X (PostX X.K B H M X0) := takes0.imp fun _ _ _ _ ⟨_, _, _, _, _, _, _, _, z⟩ => z.elim
section
variable {tg elt iter : Expr} {ifs : List Expr} {scope : Scope} {own : List (Str × Nat)} {pos : Pos}
def gB (X : Cx) (scope : Scope) (tg : Expr) : TG := fun v σ H Q => AllB X scope fun X1 => gS X1 tg v σ H Q
def tsS (X : Cx) (ifs : List Expr) : TT := fun σ H Q => ∃ t, PTs X ifs t ∧ t σ H Q
def tB (X : Cx) (scope : Scope) (ifs : List Expr) : TT := fun σ H Q => AllB X scope fun X1 => tsS X1 ifs σ H Q
def eB (X : Cx) (scope : Scope) (e : Expr) : TE := fun σ H Q => AllB X scope fun X1 => eS X1 e σ H Q
theorem comp_turns (own : List (Str × Nat)) (hown : own ≠ []) {F : List Rv → Mem → Prop} {Q : VK} {σ : Slots} {B1 H1 : Hp} {M1 : Mem} {J : It} {items : List Rv} {L : Addr} (w : Walk J items.length (fun H => Same B1 H) (fun i H x H' => ∀ r, items[i]? = some r → Step X.K B1 r x H H'))
    (o1 : Ok X.K B1 H1 M1) (env : EnvOk X.K B1 σ ρ) (hL : H1 L = none) (h0 : CompD X tg elt ifs scope (own.map (·.2)) ρ F items [] M1)
    (hd : ∀ H' B' M' acc xs, Ok X.K B' H' M' → Fr B1 H1 M1 B' H' M' → At B' H' M' L xs → RvAll X.K B' xs acc → F acc M' → Q (.ref L) H') :
    ∃ W : Nat → Nat → Hp → Prop, (∃ m, W 0 m (upd H1 L (.lst []))) ∧ ∀ i m H, W i m H → (J.stop i H ∧ Q (.ref L) H) ∨ (J.go i H ∧ ∃ Nx : Hp → Prop, (∀ H', Nx H' → ∃ m', m' < m ∧ W (i + 1) m' H') ∧
      ∀ x H', J.yld i H x H' → gB X scope tg x (wipe σ (own.map (·.2))) H' fun σ2 H2 => wipe σ2 (own.map (·.2)) = wipe σ (own.map (·.2)) ∧ tB X scope ifs σ2 H2 fun b H3 =>
        if b = true then eB X scope elt σ2 H3 fun y H4 => ∃ acc, H4 L = some (.lst acc) ∧ acc.length < sizeLine ∧ Nx (upd H4 L (.lst (acc ++ [y]))) else Nx H3) := by
  have bL := sub_none o1.ext hL
  have mL : ∀ p ∈ M1, p.1 ≠ L := fun p hp e => by
    obtain ⟨_, _, _, h, _⟩ := o1.mem p hp
    rw [e, hL] at h; cases h
  refine lc_it w (Qd := fun H' => Q (.ref L) H') (fun i H' => ∃ B' M' acc xs, Ok X.K B' H' M' ∧ Fr B1 H1 M1 B' H' M' ∧ At B' H' M' L xs ∧ RvAll X.K B' xs acc ∧ CompD X tg elt ifs scope (own.map (·.2)) ρ F (items.drop i) acc M') ?_
    (fun i H' _ ⟨B', M', acc, xs, o, f, _⟩ => f.ex.trans o.ext) (fun i x H2 H3 hi ⟨B2, M2, acc, xs, o2, f2, a2, r2, c2⟩ y => ?_) (fun H' ⟨B', M', acc, xs, o, f, a, r, c⟩ => ?_)
  · refine ⟨B1, M1, [], [], ⟨fun x u e => by rw [upd_ne (ne_of_none e bL)]; exact o1.ext x u e, fun q hq => ?_, o1.nd⟩, fr_set .refl hL, ⟨upd_same, bL, mL⟩, .nil, h0⟩
    obtain ⟨h1, vs, rs, h2, h3, h4⟩ := o1.mem q hq
    exact ⟨h1, vs, rs, by rw [upd_ne (mL q hq)]; exact h2, h3, h4⟩
  · obtain ⟨r, hr⟩ : ∃ r, items[i]? = some r := ⟨items[i], by simp [hi]⟩
    obtain ⟨B3, o3, f3, q3⟩ := y r hr B2 M2 o2 f2.ex
    rw [List.drop_eq_getElem_cons hi, (List.getElem?_eq_some_iff.mp hr).2] at c2
    obtain ⟨hz, c2⟩ := c2
    have a3 := a2.step f3
    have f13 := f2.trans f3
    intro s H C cl fp
    refine gS_mono (c2 s H C cl fp B3 H3 (wipe σ (own.map (·.2))) x o3 (env_wipe (env_mono f13.ex env) _) q3) fun σ4 H4 ⟨hw, B4, M4, ρ4, o4, f4, e4, c4⟩ => ?_
    have ww : ∀ (vs : List Nat) (τ : Slots), wipe (wipe τ vs) vs = wipe τ vs := by
      intro vs τ
      have ix : ∀ (vs : List Nat) (τ : Slots) (j : Nat), (wipe τ vs)[j]? = if j ∈ vs ∧ j < τ.length then some none else τ[j]? := by
        intro vs
        induction vs with
        | nil => intro τ j; simp [wipe]
        | cons a vs ih =>
          intro τ j
          show ((wipe τ vs).set a none)[j]? = _
          rw [List.getElem?_set, ih, wipe_length]
          by_cases e : a = j
          · subst e
            by_cases hl : a < τ.length
            · simp [hl]
            · simp [hl, List.getElem?_eq_none (Nat.le_of_not_lt hl)]
          · have e' : ¬ j = a := fun z => e z.symm
            simp [e, e']
      refine List.ext_getElem? fun j => ?_
      rw [ix vs (wipe τ vs) j, ix vs τ j, wipe_length]
      split <;> rfl
    refine ⟨?_, ?_⟩
    · cases own with
      | nil => exact absurd rfl hown
      | cons p own => rw [hw (by simp), ww]
    · intro s H C cl fp
      have a4 := a3.step f4
      have f14 := f13.trans f4
      have k := c4 s H C cl fp
      have fin : ∀ b H5, PostT X.K B4 H4 M4 (fun b M3 => (b = true → AllB X scope fun X3 => GE X3 elt ρ4 M3 (fun y M4 => CompD X tg elt ifs scope (own.map (·.2)) ρ F (items.drop (i + 1)) (acc ++ [y]) M4) X0) ∧ (b = false → CompD X tg elt ifs scope (own.map (·.2)) ρ F (items.drop (i + 1)) acc M3)) b H5 →
          (if b = true then eB X scope elt σ4 H5 fun y H4 => ∃ acc, H4 L = some (.lst acc) ∧ acc.length < sizeLine ∧ (∃ B' M' acc_1 xs, Ok X.K B' (upd H4 L (.lst (acc ++ [y]))) M' ∧ Fr B1 H1 M1 B' (upd H4 L (.lst (acc ++ [y]))) M' ∧ At B' (upd H4 L (.lst (acc ++ [y]))) M' L xs ∧ RvAll X.K B' xs acc_1 ∧ CompD X tg elt ifs scope (own.map (·.2)) ρ F (items.drop (i + 1)) acc_1 M')
            else ∃ B' M' acc xs, Ok X.K B' H5 M' ∧ Fr B1 H1 M1 B' H5 M' ∧ At B' H5 M' L xs ∧ RvAll X.K B' xs acc ∧ CompD X tg elt ifs scope (own.map (·.2)) ρ F (items.drop (i + 1)) acc M') := fun b H5 ⟨B5, M5, o5, f5, k5⟩ => by
        have a5 := a4.step f5
        have f15 := f14.trans f5
        have r5 := rvAll_mono (f3.ex.trans (f4.ex.trans f5.ex)) r2
        cases b with
        | true =>
          rw [if_pos rfl]
          intro s H C cl fp
          refine eS_mono (k5.1 rfl s H C cl fp B5 H5 σ4 o5 (env_mono f5.ex e4) tk0) fun v H6 ⟨B6, M6, r6, o6, f6, q6, c6⟩ => ?_
          have a6 := a5.step f6
          refine ⟨xs, a6.h, by rw [r2.length]; exact hz, B6, M6, acc ++ [r6], xs ++ [v], (a6.set o6).1, fr_set (f15.trans f6) hL, (a6.set o6).2, RvAll.app (rvAll_mono f6.ex r5) (.cons q6 .nil), c6⟩
        | false =>
          rw [if_neg Bool.false_ne_true]
          exact ⟨B5, M5, acc, xs, o5, f15, a5, r5, k5.2 rfl⟩
      match ifs, k, fin with
      | [], k, fin => exact ⟨tYes, pts_nil, fin true H4 ⟨B4, M4, o4, .refl, k⟩⟩
      | [c], k, fin => exact ⟨_, pts_one pt_S, tS_mono (k B4 H4 σ4 o4 e4 tk0) fin⟩
      | _ :: _ :: _, k, fin => exact k.elim
  · rw [List.drop_length] at c
    exact hd H' B' M' acc xs o f a r c
theorem at_frz {K : Frg} {B H : Hp} {M : Mem} {L : Addr} {xs : List V} (a : At B H M L xs) (ok : Ok K B H M) : Ok K (upd B L (.lst xs)) H M := ⟨fun x u e => by
    by_cases e2 : x = L
    · subst e2; rw [upd_same] at e; cases e; exact a.h
    · rw [upd_ne e2] at e; exact ok.ext x u e, fun q hq => by
    obtain ⟨h1, vs, rs, h2, h3, h4⟩ := ok.mem q hq
    exact ⟨by rw [upd_ne (a.m q hq)]; exact h1, vs, rs, h2, rvAll_mono (same_new a.b) h3, h4⟩, ok.nd⟩
theorem at_own {K : Frg} {B H : Hp} {M : Mem} {L : Addr} {xs : List V} {rs : List Rv} (a : At B H M L xs) (ok : Ok K B H M) (hx : RvAll K B xs rs) : Ok K B H ((L, Is rs) :: M) := ⟨ok.ext, fun q hq => by
    rcases List.mem_cons.mp hq with rfl | hq
    · exact ⟨a.b, xs, rs, a.h, hx, rfl⟩
    · exact ok.mem q hq, by
    rw [List.map_cons, List.nodup_cons]
    exact ⟨fun hm => by
      obtain ⟨q, hq, e⟩ := List.mem_map.mp hm
      exact a.m q hq e, ok.nd⟩⟩
/-- what is wanted of the whole list: it won't change | it may -/
def Frz (Φ : Pst) : List Rv → Mem → Prop := fun acc M => ∃ ds : List PyData, acc = ds.map Rv.d ∧ Φ (.d (.list ds)) M
def Own (Φ : Pst) : List Rv → Mem → Prop := fun acc M => ∀ p, Φ (.cell p) ((p, Is acc) :: M)
theorem lc_end {F : List Rv → Mem → Prop} (hF : F = Frz Φ ∨ F = Own Φ) {B H B1 H1 H' B' : Hp} {M M1 M' : Mem} {L : Addr} {acc : List Rv} {xs : List V} (f1 : Fr B H M B1 H1 M1) (hL : H1 L = none) (o : Ok X.K B' H' M') (f : Fr B1 H1 M1 B' H' M') (a : At B' H' M' L xs) (r : RvAll X.K B' xs acc) (h : F acc M') :
    PostE X.K B H M Φ (.ref L) H' := by
  rcases hF with rfl | rfl
  · obtain ⟨ds, rfl, k⟩ := h
    refine postE_after f1 ⟨upd B' L (.lst xs), M', _, at_frz a o, ⟨f.ex.trans (same_new a.b), fun x u h b m => ?_, f.new, f.grow⟩, .d (.lst (.of upd_same) (dpAll_mono (same_new a.b) _ r.data)), k⟩
    have z := f.out x u h b m
    exact ⟨z.1, by rw [upd_ne (ne_of_none h hL)]; exact z.2⟩
  · refine postE_after f1 ⟨B', _, .cell L, at_own a o r, ⟨f.ex, f.out, fun q hq => ?_, f.grow⟩, .cell L, h L⟩
    rcases List.mem_cons.mp hq with rfl | hq
    · exact .inr hL
    · exact f.new q hq
theorem ge_lc (own : List (Str × Nat)) {F : List Rv → Mem → Prop} (hF : F = Frz Φ ∨ F = Own Φ) (hown : own ≠ []) (hc : X.calm = true) (hN : X.N.Nodup) (hk : BlkOk X.N X.env.scope scope own) (hs : ∀ x, foldedSetIterable iter X.env x = pure x)
    (h : GI X tg iter ρ M (fun items M1 => CompD X tg elt ifs scope (own.map (·.2)) ρ F items [] M1) Ξ) : GE X (.ListComp elt [⟨tg, iter, ifs, 0⟩] scope pos) ρ M Φ Ξ := fun B H σ ok env tk =>
  eS_of (pe_lc (g := gB X scope tg) (tt := tB X scope ifs) (te := eB X scope elt) (own := own) hc hN pi_S hk (fun s H C cl fp => ⟨fun pins s' σ H v u Q I r h => h s _ C cl fp pins s' u I r⟩)
      (fun s H C cl fp => ⟨fun pins s' σ H Q I h => by obtain ⟨t, ht, k⟩ := h s _ C cl fp; exact ht.run pins s' σ H Q I k⟩) (fun s H C cl fp => ⟨fun pins s' σ H Q I h => h s _ C cl fp pins s' I⟩) hs)
    (iS_mono (h B H σ ok env tk) fun J H1 ⟨B1, M1, items, o1, f1, hC, w⟩ L hL => comp_turns own hown (F := F) w o1 (env_mono f1.ex env) hL hC fun H' B' M' acc xs o f a r k => lc_end hF f1 hL o f a r k)
/-- x = [..] -/
theorem gs_lc (own : List (Str × Nat)) {i : Nat} {y : Str} {py spos : Pos} {F : List Rv → Mem → Prop} (hF : F = Frz (fun r M1 => D.nx (ρ.set i r) M1) ∨ F = Own (fun r M1 => D.nx (ρ.set i r) M1)) (hown : own ≠ []) (hv : Var X i y) (hc : X.calm = true) (hN : X.N.Nodup) (hyl : X.env.scope.names.lookup y = some .local)
    (hsw : swapsWith (.ListComp elt [⟨tg, iter, ifs, 0⟩] scope pos) (some (.Name y py)) spos.line X.env = pure true) (hk : BlkOk X.N X.env.scope scope own) (hs : ∀ x, foldedSetIterable iter X.env x = pure x)
    (h : GI X tg iter ρ M (fun items M1 => CompD X tg elt ifs scope (own.map (·.2)) ρ F items [] M1) D.xx) : GS X (.Assign [.Name y py] (.ListComp elt [⟨tg, iter, ifs, 0⟩] scope pos) spos) ρ M D := fun B H σ ok env tk =>
  sS_of (ps_setLc (g := gB X scope tg) (tt := tB X scope ifs) (te := eB X scope elt) (own := own) hc hN hv.n hyl hsw pi_S hk (fun s H C cl fp => ⟨fun pins s' σ H v u Q I r h => h s _ C cl fp pins s' u I r⟩)
      (fun s H C cl fp => ⟨fun pins s' σ H Q I h => by obtain ⟨t, ht, k⟩ := h s _ C cl fp; exact ht.run pins s' σ H Q I k⟩) (fun s H C cl fp => ⟨fun pins s' σ H Q I h => h s _ C cl fp pins s' I⟩) hs)
    (iS_mono (h B H σ ok env tk) fun J H1 ⟨B1, M1, items, o1, f1, hC, w⟩ L hL => comp_turns own hown (F := F) (Q := fun v H1 => gName i v σ H1 (ends X.K B H M D).nx) w o1 (env_mono f1.ex env) hL hC fun H' B' M' acc xs o f a r k => by
      obtain ⟨B2, M2, r2, o2, f2, q2, k2⟩ := lc_end (Φ := fun r M1 => D.nx (ρ.set i r) M1) hF f1 hL o f a r k
      exact ⟨B2, M2, _, o2, f2, env_set (.some q2) i (env_mono f2.ex env), k2⟩)
/-- a comprehension whose elements are data, by a function; the memory stays -/
theorem compD_map {α : Type} {vs : List Nat} {F : List Rv → Mem → Prop} {xs : List α} {g : α → Rv} {f : α → PyData} (hz : xs.length ≤ sizeLine) (h : ∀ x ∈ xs, AllB X scope fun X1 => GG X1 tg (g x) (wipeR ρ vs) M (fun ρ2 M2 => AllB X scope fun X3 => GE X3 elt ρ2 M2 (fun y M4 => y = .d (f x) ∧ M4 = M) X0) vs)
    (hF : F ((xs.map f).map Rv.d) M) : CompD X tg elt [] scope vs ρ F (xs.map g) [] M := by
  have main : ∀ (post pre : List α), xs = pre ++ post → CompD X tg elt [] scope vs ρ F (post.map g) ((pre.map f).map Rv.d) M := by
    intro post
    induction post with
    | nil => intro pre e; rw [List.append_nil] at e; subst e; exact hF
    | cons x post ih =>
      intro pre e
      refine ⟨?_, fun s H C cl fp B' H' σ v ok env q => gS_mono (h x (by rw [e]; simp) s H C cl fp B' H' σ v ok env q) fun σ' H2 ⟨w, B2, M2, ρ2, o2, f2, e2, k⟩ => ⟨w, B2, M2, ρ2, o2, f2, e2, fun s2 H2 C2 cl2 fp2 => ?_⟩⟩
      · rw [List.length_map, List.length_map]
        have z := congrArg List.length e
        rw [List.length_append, List.length_cons] at z
        omega
      · refine ⟨fun _ s3 H3 C3 cl3 fp3 => ge_mono (k s3 H3 C3 cl3 fp3) fun y M4 ⟨e1, e3⟩ => ?_, fun z => by cases z⟩
        subst e1 e3
        have z := ih (pre ++ [x]) (by rw [e]; simp)
        rw [List.map_append, List.map_append] at z
        exact z
  exact main xs [] rfl
end
end
end Dl

set_option Elab.async false
set_option linter.all false
set_option maxRecDepth 100000
set_option maxHeartbeats 4000000
namespace Dl
open PySem PySem.Spec PyProof.Rows L2

/-! ## cells of the memory -/
inductive Cell (c : Addr) (P P' : List Rv → Prop) : Mem → Mem → Prop
  | h {M : Mem} : Cell c P P' ((c, P) :: M) ((c, P') :: M)
  | t {x : Addr × (List Rv → Prop)} {M M' : Mem} : Cell c P P' M M' → Cell c P P' (x :: M) (x :: M')
theorem Cell.split {c : Addr} {P P' : List Rv → Prop} {M M' : Mem} (h : Cell c P P' M M') : ∃ Ma Mb, M = Ma ++ (c, P) :: Mb ∧ M' = Ma ++ (c, P') :: Mb := by
  induction h with
  | h => exact ⟨[], _, rfl, rfl⟩
  | t _ ih => obtain ⟨Ma, Mb, e1, e2⟩ := ih; exact ⟨_ :: Ma, Mb, by rw [e1]; rfl, by rw [e2]; rfl⟩
inductive Del (c : Addr) (P : List Rv → Prop) : Mem → Mem → Prop
  | h {M : Mem} : Del c P ((c, P) :: M) M
  | t {x : Addr × (List Rv → Prop)} {M M' : Mem} : Del c P M M' → Del c P (x :: M) (x :: M')
theorem Del.split {c : Addr} {P : List Rv → Prop} {M M' : Mem} (h : Del c P M M') : ∃ Ma Mb, M = Ma ++ (c, P) :: Mb ∧ M' = Ma ++ Mb := by
  induction h with
  | h => exact ⟨[], _, rfl, rfl⟩
  | t _ ih => obtain ⟨Ma, Mb, e1, e2⟩ := ih; exact ⟨_ :: Ma, Mb, by rw [e1]; rfl, by rw [e2]; rfl⟩
inductive Has (c : Addr) (P : List Rv → Prop) : Mem → Prop
  | h {M : Mem} : Has c P ((c, P) :: M)
  | t {x : Addr × (List Rv → Prop)} {M : Mem} : Has c P M → Has c P (x :: M)
theorem Has.split {c : Addr} {P : List Rv → Prop} {M : Mem} (h : Has c P M) : ∃ Ma Mb, M = Ma ++ (c, P) :: Mb ∧ ∀ P', Cell c P P' M (Ma ++ (c, P') :: Mb) := by
  induction h with
  | h => exact ⟨[], _, rfl, fun _ => .h⟩
  | t _ ih => obtain ⟨Ma, Mb, e1, e2⟩ := ih; exact ⟨_ :: Ma, Mb, by rw [e1]; rfl, fun P' => .t (e2 P')⟩
theorem Has.mem {c : Addr} {P : List Rv → Prop} {M : Mem} (h : Has c P M) : (c, P) ∈ M := by
  obtain ⟨Ma, Mb, e, _⟩ := h.split
  rw [e]; simp
/-- less is told: cells are left out, contents are told less of -/
inductive Le : Mem → Mem → Prop
  | nil : Le [] []
  | keep {c : Addr} {P P' : List Rv → Prop} {M M' : Mem} : (∀ rs, P rs → P' rs) → Le M M' → Le ((c, P) :: M) ((c, P') :: M')
  | drop {x : Addr × (List Rv → Prop)} {M M' : Mem} : Le M M' → Le (x :: M) M'
theorem Le.refl : ∀ (M : Mem), Le M M
  | [] => .nil
  | (_, _) :: M => .keep (fun _ h => h) (Le.refl M)
theorem Le.mem : ∀ {M M' : Mem}, Le M M' → ∀ q ∈ M', ∃ p ∈ M, p.1 = q.1 ∧ ∀ rs, p.2 rs → q.2 rs
  | _, _, .nil, q, h => absurd h (by simp)
  | _, _, .keep (c := c) (P := P) hp l, q, h => by
    rcases List.mem_cons.mp h with rfl | h
    · exact ⟨_, List.mem_cons_self, rfl, hp⟩
    · obtain ⟨p, h1, h2⟩ := l.mem q h
      exact ⟨p, List.mem_cons_of_mem _ h1, h2⟩
  | _, _, .drop l, q, h => by
    obtain ⟨p, h1, h2⟩ := l.mem q h
    exact ⟨p, List.mem_cons_of_mem _ h1, h2⟩
theorem Le.sub : ∀ {M M' : Mem}, Le M M' → (M'.map (·.1)).Sublist (M.map (·.1))
  | _, _, .nil => .slnil
  | _, _, .keep _ l => .cons_cons _ l.sub
  | _, _, .drop l => .cons _ l.sub
theorem ok_le {K : Frg} {B H : Hp} {M M' : Mem} (l : Le M M') (ok : Ok K B H M) : Ok K B H M' ∧ Fr B H M B H M' :=
  ⟨⟨ok.ext, fun q hq => by
    obtain ⟨p, hp, e, i⟩ := l.mem q hq
    obtain ⟨h1, xs, rs, h2, h3, h4⟩ := ok.mem p hp
    exact ⟨by rw [← e]; exact h1, xs, rs, by rw [← e]; exact h2, h3, i rs h4⟩, ok.nd.sublist l.sub⟩,
   ⟨Same.refl _, fun _ _ h b _ => ⟨h, b⟩, fun q hq => let ⟨p, hp, e, _⟩ := l.mem q hq; .inl ⟨p, hp, e⟩, fun _ h => h⟩⟩
section
variable {X : Cx} {ρ : List Rv} {M : Mem} {Φ : Pst} {Ξ : Xi} {D : DE}
theorem ge_le {e : Expr} (h : GE X e ρ M (fun r M1 => ∃ M2, Le M1 M2 ∧ Φ r M2) Ξ) : GE X e ρ M Φ Ξ := fun B H σ ok env tk =>
  one h ok env tk fun v H1 B1 M1 r o1 f1 q1 ⟨M2, l, k⟩ => ⟨B1, M2, r, (ok_le l o1).1, f1.trans (ok_le l o1).2, q1, k⟩
theorem gss_le {st : List Stmt} {M2 : Mem} (l : Le M M2) (h : GSs X st ρ M2 D) : GSs X st ρ M D := fun B H σ ok env tk =>
  ssS_mono (h B H σ (ok_le l ok).1 env (tk_after tk (ok_le l ok).2)) (ends_after (ok_le l ok).2)
theorem gs_retL {e : Expr} {pos : Pos} (h : GE X e ρ M (fun r M1 => ∃ M2, Le M1 M2 ∧ D.rt r M2) D.xx) : GS X (.Return (some e) pos) ρ M D := gs_ret (ge_le h)
theorem gss_look {st : List Stmt} {c : Addr} {P : List Rv → Prop} (hc : Has c P M) (h : ∀ rs M', P rs → Cell c P (Is rs) M M' → GSs X st ρ M' D) : GSs X st ρ M D := by
  obtain ⟨Ma, Mb, e, k⟩ := hc.split
  subst e
  exact gss_open fun rs hr => h rs _ hr (k _)
/-! the rules over cells, with the place found -/
theorem append_at {o e : Expr} {apos cpos : Pos} (h1 : attributeBase o "append" X.env (eval o X.env) = eval o X.env)
    (h2 : ((backTo cpos (starEach [e] X.env)).all (!·.1) && (backToKw cpos (keywordEach [] X.env)).all (·.1.isSome) && decide (([e] : List Expr).length + ([] : List Keyword).length + (if ([] : List Keyword).isEmpty = true then 0 else 1) < 30)) = true)
    (h3 : (apos.endLine == cpos.line) = true) (h4 : starEach [e] X.env = (false, eval e X.env) :: starEach [] X.env) (h5 : (backTo cpos (starEach [] X.env)).any (·.1) = false)
    (h : GE X o ρ M (fun x M1 => ∃ p P, x = .cell p ∧ Has p P M1 ∧ GE X e ρ M1 (fun r M2 => ∃ rs M3, Cell p (Is rs) (Is (rs ++ [r])) M2 M3 ∧ rs.length < sizeLine ∧ Φ (.d .none) M3) Ξ) Ξ) :
    GE X (.Call (.Attribute o "append" apos) [e] [] cpos) ρ M Φ Ξ :=
  ge_append h1 h2 h3 h4 h5 (ge_mono h fun x M1 ⟨p, P, e1, hm, he⟩ => ⟨p, P, e1, hm.mem, ge_mono he fun r M2 ⟨rs, M3, hc, hz, k⟩ => by
    obtain ⟨Ma, Mb, e2, e3⟩ := hc.split
    subst e2 e3
    exact ⟨rs, Ma, Mb, rfl, hz, k⟩⟩)
theorem setix_at {o i e : Expr} {p1 pos : Pos} (h1 : swapsWithSole [.Subscript o i p1] e pos.line X.env = pure false) (h2 : swappedStores [.Subscript o i p1] e X.env = pure none) (h3 : (assignEach [.Subscript o i p1] X.env).map (·.2) = [assign (.Subscript o i p1) X.env])
    (h4 : ∀ v, assign (.Subscript o i p1) X.env v = (do let ov ← holding [v] (eval o X.env); let iv ← holding [v, ov] (eval i X.env); standAt p1; holding [v, ov, iv] (setItem ov iv v); release [v, ov, iv] []))
    (h : GE X e ρ M (fun r M1 => GE X o ρ M1 (fun x M2 => GE X i ρ M2 (fun y M3 => ∃ p rs k j M4, x = .cell p ∧ y = .d (.int k) ∧ Cell p (Is rs) (Is (rs.set j r)) M3 M4 ∧ ixN rs.length k = some j ∧ D.nx ρ M4) D.xx) D.xx) D.xx) :
    GS X (.Assign [.Subscript o i p1] e pos) ρ M D :=
  gs_setix h1 h2 h3 h4 (ge_mono h fun r M1 ho => ge_mono ho fun x M2 hi => ge_mono hi fun y M3 ⟨p, rs, k, j, M4, e1, e2, hc, hj, z⟩ => by
    obtain ⟨Ma, Mb, e3, e4⟩ := hc.split
    subst e3 e4
    exact ⟨p, rs, Ma, Mb, k, j, e1, e2, rfl, hj, z⟩)
theorem ixC_at {a b : Expr} {pos : Pos} (hp : PlainIx b) (ha : GE X a ρ M (fun x M1 => GE X b ρ M1 (fun y M2 => ∃ (p : Addr) (rs : List Rv) (i : Int) (r : Rv), x = .cell p ∧ Has p (Is rs) M2 ∧ y = .d (.int i) ∧ atI rs i = some r ∧ Φ r M2) Ξ) Ξ) : GE X (.Subscript a b pos) ρ M Φ Ξ :=
  ge_ixC hp (ge_mono ha fun x M1 hb => ge_mono hb fun y M2 ⟨p, rs, i, r, e1, hm, e2, e3, k⟩ => ⟨p, Is rs, i, e1, hm.mem, e2, fun rs' (h : rs' = rs) => by rw [h]; exact ⟨r, e3, k⟩⟩)
theorem sliceC_at {e : Expr} {lo hi : Option Expr} {pos p2 : Pos} (h : GE X e ρ M (fun x M1 => GO X lo ρ M1 (fun l M2 => GO X hi ρ M2 (fun u M3 => ∃ (p : Addr) (ds : List PyData), x = .cell p ∧ Has p (Is (ds.map Rv.d)) M3 ∧ Φ (.d (.list (cutD ds l u))) M3) Ξ) Ξ) Ξ) : GE X (.Subscript e (.Slice lo hi none p2) pos) ρ M Φ Ξ :=
  ge_sliceC (ge_mono h fun x M1 hl B H σ ok env tk => pS_mono (hl B H σ ok env tk) fun l H1 ⟨B1, M2, o1, f1, hu⟩ => ⟨B1, M2, o1, f1, fun B H σ ok env tk => pS_mono (hu B H σ ok env tk) fun u H2 ⟨B2, M3, o2, f2, p, ds, e1, hm, k⟩ =>
    ⟨B2, M3, o2, f2, p, Is (ds.map Rv.d), e1, hm.mem, fun rs (h : rs = ds.map Rv.d) => ⟨ds, h, k⟩⟩⟩)
theorem lenC_at {p : Addr} {rs : List Rv} (hm : Has p (Is rs) M) (h : Φ (.d (.int rs.length)) M) : GC X (.builtin "len") [.cell p] M Φ := gc_lenC hm.mem fun rs' (e : rs' = rs) => by rw [e]; exact h
theorem frz_at {st : List Stmt} {M2 : Mem} {a : Addr} {ds : List PyData} {i : Nat} (hd : Del a (Is (ds.map Rv.d)) M M2) (hi : ρ[i]? = some (.cell a)) (h : GSs X st (ρ.set i (.d (.list ds))) M2 D) : GSs X st ρ M D := by
  obtain ⟨Ma, Mb, e1, e2⟩ := hd.split
  subst e1 e2
  exact gss_freeze hi h
theorem frzv_at {e : Expr} (h : GE X e ρ M (fun r M1 => ∃ a ds M2, r = .cell a ∧ Del a (Is (ds.map Rv.d)) M1 M2 ∧ Φ (.d (.list ds)) M2) Ξ) : GE X e ρ M Φ Ξ :=
  ge_freeze (ge_mono h fun r M1 ⟨a, ds, M2, e1, hd, k⟩ => by
    obtain ⟨Ma, Mb, e2, e3⟩ := hd.split
    subst e2 e3
    exact ⟨a, ds, Ma, Mb, e1, rfl, k⟩)
end
end Dl

set_option Elab.async false
set_option linter.all false
set_option maxRecDepth 100000
set_option maxHeartbeats 4000000
namespace Dl
open PySem PySem.Spec PyProof.Rows L2
theorem Cell.app {c : Addr} {P P' : List Rv → Prop} : ∀ {Ma Mb : Mem}, Cell c P P' (Ma ++ (c, P) :: Mb) (Ma ++ (c, P') :: Mb)
  | [], _ => .h
  | _ :: _, _ => .t Cell.app
theorem Has.app {c : Addr} {P : List Rv → Prop} : ∀ {Ma Mb : Mem}, Has c P (Ma ++ (c, P) :: Mb)
  | [], _ => .h
  | _ :: _, _ => .t Has.app
theorem Le.app {c : Addr} {P P' : List Rv → Prop} (h : ∀ rs, P rs → P' rs) : ∀ {Ma Mb : Mem}, Le (Ma ++ (c, P) :: Mb) (Ma ++ (c, P') :: Mb)
  | [], Mb => .keep h (.refl Mb)
  | (_, _) :: _, _ => .keep (fun _ h => h) (Le.app h)
section
variable {X : Cx} {N : List Str} {sc : Scope} {ρ : List Rv} {M : Mem} {Φ : Pst} {Ξ : Xi} {D : DE}
theorem Cxt.var (cx : Cxt X N sc) {i : Nat} {x : Str} (h1 : N[i]? = some x) (h2 : sc.names.lookup x = some .local ∨ sc.names.lookup x = some .cell) (h3 : (x == ("__debug__" : Str)) = false) (h4 : (x == ("__classdict__" : Str)) = false) : Var X i x :=
  ⟨by rw [cx.hN]; exact h1, by rw [cx.sc]; exact h2.elim (fun h => .inl h) fun h => .inr (.inl h), by rw [cx.sc]; exact h2, cx.fn x, h3, h4⟩
theorem Cxt.nm (cx : Cxt X N sc) {i : Nat} {x : Str} (h1 : N[i]? = some x) : Nm X i x := by
  unfold Nm; rw [cx.hN]; exact h1
theorem Cxt.gl (cx : Cxt X N sc) {x : Str} (h : sc.names.lookup x = some .globalImplicit) : Gl X x := by
  unfold Gl Env.kindOf; rw [cx.sc]; exact h
theorem Var.nm {i : Nat} {x : Str} (v : Var X i x) : Nm X i x := v.n
theorem szL {n : Nat} (h : n ≤ 100000) : n ≤ sizeLine := Nat.le_trans h (by decide)
theorem szT {n : Nat} (h : n ≤ 100000) : n < sizeLine := Nat.lt_of_le_of_lt h (by decide)
/-! data out of what is known -/
inductive DataL : List Rv → List PyData → Prop
  | nil : DataL [] []
  | cons {d : PyData} {rs : List Rv} {ds : List PyData} : DataL rs ds → DataL (.d d :: rs) (d :: ds)
theorem DataL.eq {rs : List Rv} {ds : List PyData} (h : DataL rs ds) : rs = ds.map Rv.d := by
  induction h with
  | nil => rfl
  | cons _ ih => rw [List.map_cons, ← ih]
theorem tup_at {es : List Expr} {k : Nat} {pos : Pos} (h : GA X es ρ M (fun rs M1 => ∃ ds : List PyData, DataL rs ds ∧ ds.length ≤ sizeLine ∧ Φ (.d (.tuple ds)) M1) Ξ) : GE X (.Tuple es k pos) ρ M Φ Ξ :=
  ge_tup fun B H σ ok env tk => aS_mono (h B H σ ok env tk) fun _ _ ⟨B', M', rs, o, f, q, ds, hd, z, k⟩ => ⟨B', M', rs, o, f, q, ds, hd.eq, z, k⟩
theorem lst_at {es : List Expr} {pos : Pos} (h : GA X es ρ M (fun rs M1 => ∃ ds : List PyData, DataL rs ds ∧ ds.length ≤ sizeLine ∧ Φ (.d (.list ds)) M1) Ξ) : GE X (.List es pos) ρ M Φ Ξ :=
  ge_lst fun B H σ ok env tk => aS_mono (h B H σ ok env tk) fun _ _ ⟨B', M', rs, o, f, q, ds, hd, z, k⟩ => ⟨B', M', rs, o, f, q, ds, hd.eq, z, k⟩
/-! numbers -/
theorem bits_le {i : Int} {k : Nat} (h : i.natAbs < 2 ^ k) (hk : 0 < k) : Builtin.Int.intBits i ≤ k := by
  have y := PySem.Flt.log2_lt_of hk h
  unfold Builtin.Int.intBits
  split <;> omega
theorem cpow {i : Int} {k n : Nat} (h : i.natAbs < 2 ^ k) (hk : 0 < k) (hz : k * n ≤ 2 ^ 27) : CPowW i n := by
  refine ⟨by omega, ?_⟩
  have b := bits_le h hk
  have : (Builtin.Int.intBits i : Int) * n ≤ ((k * n : Nat) : Int) := by
    rw [Int.natCast_mul]
    exact Int.mul_le_mul_of_nonneg_right (by omega) (by omega)
  omega
theorem g2_ten (n : Nat) {j r : Int} (ej : j = n) (hz : n ≤ 1000) (e : (10 : Int) ^ n = r) (h : Φ (.d (.int r)) M) : G2 X (binaryOp .Pow) (.d (.int 10)) (.d (.int j)) M Φ := by
  subst ej
  exact g2_pow (cpow (k := 4) (by decide) (by decide) (by omega)) e h
/-- i ** 3: some int -/
theorem g2_cube {i : Int} (hb : i.natAbs < 2 ^ 1000) (h : ∀ r, Φ (.d (.int r)) M) : G2 X (binaryOp .Pow) (.d (.int i)) (.d (.int 3)) M Φ :=
  g2_pow (n := 3) (cpow (k := 1000) hb (by decide) (by decide)) rfl (h _)
theorem mulB {i j : Int} (h1 : i.natAbs < 2 ^ 1000) (h2 : j.natAbs < 2 ^ 1000) : CMulW i j := wide_mul h1 h2 (by decide) (by decide) (by decide)
theorem divB {i j : Int} (h1 : 0 < j) (h2 : j.natAbs < 2 ^ 1000) : CDivW i j := wide_div h1 h2 (by decide) (by decide)
theorem ten6 (h : Φ (.d (.int 1000000)) M) : G2 X (binaryOp .Pow) (.d (.int 10)) (.d (.int 6)) M Φ := g2_ten 6 rfl (by decide) (by decide +kernel) h
theorem ten10 (h : Φ (.d (.int 10000000000)) M) : G2 X (binaryOp .Pow) (.d (.int 10)) (.d (.int 10)) M Φ := g2_ten 10 rfl (by decide) (by decide +kernel) h
theorem ten12 (h : Φ (.d (.int 1000000000000)) M) : G2 X (binaryOp .Pow) (.d (.int 10)) (.d (.int 12)) M Φ := g2_ten 12 rfl (by decide) (by decide +kernel) h
theorem ten18 (h : Φ (.d (.int 1000000000000000000)) M) : G2 X (binaryOp .Pow) (.d (.int 10)) (.d (.int 18)) M Φ := g2_ten 18 rfl (by decide) (by decide +kernel) h
theorem ten20 (h : Φ (.d (.int 100000000000000000000)) M) : G2 X (binaryOp .Pow) (.d (.int 10)) (.d (.int 20)) M Φ := g2_ten 20 rfl (by decide) (by decide +kernel) h
theorem ten24 (h : Φ (.d (.int 1000000000000000000000000)) M) : G2 X (binaryOp .Pow) (.d (.int 10)) (.d (.int 24)) M Φ := g2_ten 24 rfl (by decide) (by decide +kernel) h
theorem ten25 (h : Φ (.d (.int 10000000000000000000000000)) M) : G2 X (binaryOp .Pow) (.d (.int 10)) (.d (.int 25)) M Φ := g2_ten 25 rfl (by decide) (by decide +kernel) h
theorem ten26 (h : Φ (.d (.int 100000000000000000000000000)) M) : G2 X (binaryOp .Pow) (.d (.int 10)) (.d (.int 26)) M Φ := g2_ten 26 rfl (by decide) (by decide +kernel) h
theorem ten27 (h : Φ (.d (.int 1000000000000000000000000000)) M) : G2 X (binaryOp .Pow) (.d (.int 10)) (.d (.int 27)) M Φ := g2_ten 27 rfl (by decide) (by decide +kernel) h
theorem ten28 (h : Φ (.d (.int 10000000000000000000000000000)) M) : G2 X (binaryOp .Pow) (.d (.int 10)) (.d (.int 28)) M Φ := g2_ten 28 rfl (by decide) (by decide +kernel) h
theorem ten29 (h : Φ (.d (.int 100000000000000000000000000000)) M) : G2 X (binaryOp .Pow) (.d (.int 10)) (.d (.int 29)) M Φ := g2_ten 29 rfl (by decide) (by decide +kernel) h
theorem ten30 (h : Φ (.d (.int 1000000000000000000000000000000)) M) : G2 X (binaryOp .Pow) (.d (.int 10)) (.d (.int 30)) M Φ := g2_ten 30 rfl (by decide) (by decide +kernel) h
theorem ten37 (h : Φ (.d (.int 10000000000000000000000000000000000000)) M) : G2 X (binaryOp .Pow) (.d (.int 10)) (.d (.int 37)) M Φ := g2_ten 37 rfl (by decide) (by decide +kernel) h
theorem ten41 (h : Φ (.d (.int 100000000000000000000000000000000000000000)) M) : G2 X (binaryOp .Pow) (.d (.int 10)) (.d (.int 41)) M Φ := g2_ten 41 rfl (by decide) (by decide +kernel) h
theorem ten46 (h : Φ (.d (.int 10000000000000000000000000000000000000000000000)) M) : G2 X (binaryOp .Pow) (.d (.int 10)) (.d (.int 46)) M Φ := g2_ten 46 rfl (by decide) (by decide +kernel) h
/-! statements, the ends written out -/
inductive SetAt (r : Rv) : Nat → List Rv → List Rv → Prop
  | z {x : Rv} {ρ : List Rv} : SetAt r 0 (x :: ρ) (r :: ρ)
  | s {i : Nat} {x : Rv} {ρ ρ' : List Rv} : SetAt r i ρ ρ' → SetAt r (i + 1) (x :: ρ) (x :: ρ')
theorem SetAt.eq {r : Rv} {i : Nat} {ρ ρ' : List Rv} (h : SetAt r i ρ ρ') : ρ.set i r = ρ' := by
  induction h with
  | z => rfl
  | s _ ih => rw [List.set_cons_succ, ih]
section
variable {nx : List Rv → Mem → Prop} {rt : Pst} {bk ct : List Rv → Mem → Prop} {xx : Xi}
theorem sq {st : Stmt} {rest : List Stmt} (h : GS X st ρ M ⟨fun ρ1 M1 => GSs X rest ρ1 M1 ⟨nx, rt, bk, ct, xx⟩, rt, bk, ct, xx⟩) : GSs X (st :: rest) ρ M ⟨nx, rt, bk, ct, xx⟩ := gss_cons h
theorem sNil (h : nx ρ M) : GSs X [] ρ M ⟨nx, rt, bk, ct, xx⟩ := gss_nil h
theorem sSet {i : Nat} {x : Str} {e : Expr} {pos pos' : Pos} (hv : Var X i x) (nd : X.N.Nodup) (hs : swapsWith e (some (.Name x pos')) pos.line X.env = pure false)
    (h : GE X e ρ M (fun r M1 => ∃ ρ', SetAt r i ρ ρ' ∧ nx ρ' M1) xx) : GS X (.Assign [.Name x pos'] e pos) ρ M ⟨nx, rt, bk, ct, xx⟩ := gs_set hv nd hs (ge_mono h fun r M1 ⟨ρ', s, k⟩ => by rw [← s.eq] at k; exact k)
theorem sIf {c : Expr} {a b : List Stmt} {pos : Pos} (h : GT X c ρ M (fun k M1 => (k = true → GSs X a ρ M1 ⟨nx, rt, bk, ct, xx⟩) ∧ (k = false → GSs X b ρ M1 ⟨nx, rt, bk, ct, xx⟩)) xx) : GS X (.If c a b pos) ρ M ⟨nx, rt, bk, ct, xx⟩ := gs_if h
theorem sRet {e : Expr} {pos : Pos} (h : GE X e ρ M (fun r M1 => ∃ M2, Le M1 M2 ∧ rt r M2) xx) : GS X (.Return (some e) pos) ρ M ⟨nx, rt, bk, ct, xx⟩ := gs_retL h
theorem sExpr {e : Expr} {pos : Pos} (hs : swapsWith e none pos.line X.env = pure false) (h : GE X e ρ M (fun _ M1 => nx ρ M1) xx) : GS X (.Expr e pos) ρ M ⟨nx, rt, bk, ct, xx⟩ := gs_expr hs h
theorem sPass {pos : Pos} (h : nx ρ M) : GS X (.Pass pos) ρ M ⟨nx, rt, bk, ct, xx⟩ := gs_pass h
theorem sPar {i j : Nat} {x y : Str} {a b : Expr} {px py pt pt2 pos : Pos} {kt k2 : Nat} (hx : Var X i x) (hy : Var X j y) (hc : X.calm = true) (nd : X.N.Nodup) (hij : i ≠ j) (lx : X.env.scope.names.lookup x = some .local) (ly : X.env.scope.names.lookup y = some .local)
    (hs : swappedStores [.Tuple [.Name x px, .Name y py] kt pt] (.Tuple [a, b] k2 pt2) X.env = pure (some [x, y])) (hw : swapsWithSole [.Tuple [.Name x px, .Name y py] kt pt] (.Tuple [a, b] k2 pt2) pos.line X.env = pure false)
    (h : GA X [a, b] ρ M (fun rs M1 => ∃ r q ρ1 ρ2, rs = [r, q] ∧ SetAt r i ρ ρ1 ∧ SetAt q j ρ1 ρ2 ∧ nx ρ2 M1) xx) : GS X (.Assign [.Tuple [.Name x px, .Name y py] kt pt] (.Tuple [a, b] k2 pt2) pos) ρ M ⟨nx, rt, bk, ct, xx⟩ :=
  gs_par hx hy hc nd hij lx ly hs hw fun B H σ ok env tk => aS_mono (h B H σ ok env tk) fun _ _ ⟨B', M', rs, o, f, q, r, q2, ρ1, ρ2, e, s1, s2, k⟩ => ⟨B', M', rs, o, f, q, r, q2, e, by rw [s1.eq, s2.eq]; exact k⟩
theorem sAsg {tg e : Expr} {pos : Pos} (h1 : swapsWithSole [tg] e pos.line X.env = pure false) (h2 : swappedStores [tg] e X.env = pure none) (h3 : (assignEach [tg] X.env).map (·.2) = [assign tg X.env])
    (h : GE X e ρ M (fun r M1 => GG X tg r ρ M1 nx []) xx) : GS X (.Assign [tg] e pos) ρ M ⟨nx, rt, bk, ct, xx⟩ := gs_asg h1 h2 h3 h
/-- a written place -/
inductive IxSet (r : Rv) : Int → List Rv → List Rv → Prop
  | zero {x : Rv} {ρ : List Rv} : IxSet r 0 (x :: ρ) (r :: ρ)
  | one {x y : Rv} {ρ : List Rv} : IxSet r 1 (x :: y :: ρ) (x :: r :: ρ)
  | two {x y z : Rv} {ρ : List Rv} : IxSet r 2 (x :: y :: z :: ρ) (x :: y :: r :: ρ)
  | any {k : Int} {j : Nat} {ρ : List Rv} : ixN ρ.length k = some j → IxSet r k ρ (ρ.set j r)
theorem IxSet.eq {r : Rv} {k : Int} {rs qs : List Rv} (h : IxSet r k rs qs) : ∃ j, ixN rs.length k = some j ∧ rs.set j r = qs := by
  cases h with
  | zero => exact ⟨0, by unfold ixN; rw [if_pos (by decide), if_pos (by rw [List.length_cons]; omega)]; rfl, rfl⟩
  | one => exact ⟨1, by unfold ixN; rw [if_pos (by decide), if_pos (by rw [List.length_cons, List.length_cons]; omega)]; rfl, rfl⟩
  | two => exact ⟨2, by unfold ixN; rw [if_pos (by decide), if_pos (by rw [List.length_cons, List.length_cons, List.length_cons]; omega)]; rfl, rfl⟩
  | any h => exact ⟨_, h, rfl⟩
theorem sIx {o i e : Expr} {p1 pos : Pos} (h1 : swapsWithSole [.Subscript o i p1] e pos.line X.env = pure false) (h2 : swappedStores [.Subscript o i p1] e X.env = pure none) (h3 : (assignEach [.Subscript o i p1] X.env).map (·.2) = [assign (.Subscript o i p1) X.env])
    (h4 : ∀ v, assign (.Subscript o i p1) X.env v = (do let ov ← holding [v] (eval o X.env); let iv ← holding [v, ov] (eval i X.env); standAt p1; holding [v, ov, iv] (setItem ov iv v); release [v, ov, iv] []))
    (h : GE X e ρ M (fun r M1 => GE X o ρ M1 (fun x M2 => GE X i ρ M2 (fun y M3 => ∃ p k rs qs M4, x = .cell p ∧ y = .d (.int k) ∧ Cell p (Is rs) (Is qs) M3 M4 ∧ IxSet r k rs qs ∧ nx ρ M4) xx) xx) xx) :
    GS X (.Assign [.Subscript o i p1] e pos) ρ M ⟨nx, rt, bk, ct, xx⟩ :=
  setix_at h1 h2 h3 h4 (ge_mono h fun r M1 ho => ge_mono ho fun x M2 hi => ge_mono hi fun y M3 ⟨p, k, rs, qs, M4, e1, e2, c, s, z⟩ => by
    obtain ⟨j, e3, e4⟩ := s.eq
    subst e4
    exact ⟨p, rs, k, j, M4, e1, e2, c, e3, z⟩)
theorem sFor {tg iter : Expr} {body : List Stmt} {pos : Pos} (hp : PassesOwn (model X.prog X.w) X.A X.env X.xe) (hc : X.calm = true) (hf : ∀ x, foldedSetIterable iter X.env x = pure x)
    (h : GI X tg iter ρ M (fun items M1 => ForD X tg body ⟨nx, rt, bk, ct, xx⟩ items ρ M1) xx) : GS X (.For tg iter body [] pos) ρ M ⟨nx, rt, bk, ct, xx⟩ := gs_for hp hc hf h
theorem gName {i : Nat} {x : Str} {pos : Pos} {r : Rv} {Ψ : List Rv → Mem → Prop} {vs : List Nat} (hv : Var X i x) (nd : X.N.Nodup) (hvs : vs = [] ∨ i ∈ vs) {ρ' : List Rv} (s : SetAt r i ρ ρ')
    (h : Ψ ρ' M) : GG X (.Name x pos) r ρ M Ψ vs := gg_name nd hv.n hv.l (.inl hv.f) hvs (by rw [s.eq]; exact h)
theorem for_map {α : Type} {tg : Expr} {body : List Stmt} {xs : List α} {g : α → Rv} (Iv : List α → List Rv → Mem → Prop) (h0 : Iv [] ρ M)
    (hs : ∀ pre x post ρ' M', xs = pre ++ x :: post → Iv pre ρ' M' → GG X tg (g x) ρ' M' (fun ρ2 M2 => GSs X body ρ2 M2 ⟨Iv (pre ++ [x]), rt, nx, Iv (pre ++ [x]), xx⟩) [])
    (hd : ∀ ρ' M', Iv xs ρ' M' → nx ρ' M') : ForD X tg body ⟨nx, rt, bk, ct, xx⟩ (xs.map g) ρ M := forD_map Iv h0 hs hd
end
/-! an item, whatever holds it -/
def GIx (X : Cx) (x y : Rv) (M : Mem) (Φ : Pst) : Prop := ∀ B H v w, Ok X.K B H M → RvOk X.K B v x → RvOk X.K B w y → (rIxL X.K v w H (PostE X.K B H M Φ) ∨ rIxT X.K v w H (PostE X.K B H M Φ) ∨ rIxS v w H (PostE X.K B H M Φ))
theorem ge_ix {a b : Expr} {pos : Pos} (hp : PlainIx b) (ha : GE X a ρ M (fun x M1 => GE X b ρ M1 (fun y M2 => GIx X x y M2 Φ) Ξ) Ξ) : GE X (.Subscript a b pos) ρ M Φ Ξ := fun B H σ ok env tk =>
  eS_of (pe_ix ix_seq pe_S pe_S hp) (one ha ok env tk fun v H1 B1 M1 r o1 f1 q1 hb => one hb o1 (env_mono f1.ex env) (tk_after tk f1) fun w H2 B2 M2 r2 o2 f2 q2 k => by
    rcases k B2 H2 v w o2 (rv_mono f2.ex q1) q2 with ⟨p, xs, i, z, e1, e2, h1, h2, h3⟩ | ⟨p, xs, i, z, e1, e2, h1, h2, h3⟩ | ⟨p, i, z, e1, e2, h0, h1, h2⟩
    · exact .inl ⟨p, xs, i, z, e1, e2, h1, h2, postE_after (f1.trans f2) h3⟩
    · exact .inr (.inl ⟨p, xs, i, z, e1, e2, h1, h2, postE_after (f1.trans f2) h3⟩)
    · exact .inr (.inr ⟨p, i, z, e1, e2, h0, h1, postE_after (f1.trans f2) h2⟩))
theorem ix_l {ds : List PyData} {i : Int} {d : PyData} (h : atI ds i = some d) (k : Φ (.d d) M) : GIx X (.d (.list ds)) (.d (.int i)) M Φ := fun B H v w ok q1 q2 => by
  cases q1 with
  | d q1 => cases q1 with
    | lst hs ha =>
      unfold atI at h
      obtain ⟨j, h1, h2⟩ := Option.bind_eq_some_iff.mp h
      obtain ⟨x, h3, h4⟩ := DpAll.get j d ha h2
      refine .inl ⟨_, _, i, x, rfl, int_of q2, ok.ext.seq hs, ?_, post_same ok (.d h4) k⟩
      unfold atI
      rw [DpAll.len ha, h1]
      exact h3
theorem ix_t {ds : List PyData} {i : Int} {d : PyData} (h : atI ds i = some d) (k : Φ (.d d) M) : GIx X (.d (.tuple ds)) (.d (.int i)) M Φ := fun B H v w ok q1 q2 => by
  cases q1 with
  | d q1 => cases q1 with
    | tup hs ha =>
      unfold atI at h
      obtain ⟨j, h1, h2⟩ := Option.bind_eq_some_iff.mp h
      obtain ⟨x, h3, h4⟩ := DpAll.get j d ha h2
      refine .inr (.inl ⟨_, _, i, x, rfl, int_of q2, sq_mono ok.ext hs, ?_, post_same ok (.d h4) k⟩)
      unfold atI
      rw [DpAll.len ha, h1]
      exact h3
theorem ix_u {rs : List Rv} {i : Int} {r : Rv} (h : atI rs i = some r) (k : Φ r M) : GIx X (.tup rs) (.d (.int i)) M Φ := fun B H v w ok q1 q2 => by
  cases q1 with
  | tup hs ha =>
      unfold atI at h
      obtain ⟨j, h1, h2⟩ := Option.bind_eq_some_iff.mp h
      obtain ⟨x, h3, h4⟩ := RvAll.get j r ha h2
      refine .inr (.inl ⟨_, _, i, x, rfl, int_of q2, sq_mono ok.ext hs, ?_, post_same ok h4 k⟩)
      unfold atI
      rw [ha.length, h1]
      exact h3
theorem ix_c {p : Addr} {rs : List Rv} {i : Int} {r : Rv} (hm : Has p (Is rs) M) (h : atI rs i = some r) (k : Φ r M) : GIx X (.cell p) (.d (.int i)) M Φ := fun B H v w ok q1 q2 => by
  cases q1
  obtain ⟨_, xs, rs', hH, hx, hP⟩ := ok.mem _ hm.mem
  have e : rs' = rs := hP
  subst e
  unfold atI at h
  obtain ⟨j, h1, h2⟩ := Option.bind_eq_some_iff.mp h
  obtain ⟨x, h3, h4⟩ := RvAll.get j r hx h2
  refine .inl ⟨_, _, i, x, rfl, int_of q2, .of hH, ?_, post_same ok h4 k⟩
  unfold atI
  rw [hx.length, h1]
  exact h3
/-- a written text's sign -/
theorem ix_s {z : Str} {i : Int} {c : Nat} (hz : z.length ≤ sizeLine) (h : atI z.cps.toList i = some c) (k : Φ (.d (.str ⟨#[c]⟩)) M) : GIx X (.d (.str z)) (.d (.int i)) M Φ := fun B H v w ok q1 q2 =>
  .inr (.inr ⟨z, i, c, str_of q1, int_of q2, hz, h, post_same ok (.d (.str _)) k⟩)
end
/-! existentials, by lemmas (what is found by the side goals) -/
section
variable {Pr : Prop}
theorem ex_set {r : Rv} {i : Nat} {ρ ρ' : List Rv} {Q : List Rv → Prop} (s : SetAt r i ρ ρ') (h : Q ρ') : ∃ ρ', SetAt r i ρ ρ' ∧ Q ρ' := ⟨ρ', s, h⟩
theorem ex_par {r q : Rv} {i j : Nat} {ρ ρ1 ρ2 : List Rv} {Q : List Rv → Prop} (s : SetAt r i ρ ρ1) (t : SetAt q j ρ1 ρ2) (h : Q ρ2) : ∃ r' q' ρ1 ρ2, [r, q] = [r', q'] ∧ SetAt r' i ρ ρ1 ∧ SetAt q' j ρ1 ρ2 ∧ Q ρ2 := ⟨r, q, ρ1, ρ2, rfl, s, t, h⟩
theorem ex_ix {r : Rv} {a : Addr} {k : Int} {rs qs : List Rv} {M M4 : Mem} {Q : Mem → Prop} (c : Cell a (Is rs) (Is qs) M M4) (s : IxSet r k rs qs) (h : Q M4) : ∃ p k' rs qs M4, Rv.cell a = .cell p ∧ Rv.d (.int k) = .d (.int k') ∧ Cell p (Is rs) (Is qs) M M4 ∧ IxSet r k' rs qs ∧ Q M4 := ⟨a, k, rs, qs, M4, rfl, rfl, c, s, h⟩
theorem ex_data {rs : List Rv} {ds : List PyData} {Q : List PyData → Prop} (c : DataL rs ds) (z : ds.length ≤ sizeLine) (h : Q ds) : ∃ ds, DataL rs ds ∧ ds.length ≤ sizeLine ∧ Q ds := ⟨ds, c, z, h⟩
theorem ex_cell {a : Addr} {P : List Rv → Prop} {M : Mem} {Q : Addr → Prop} (c : Has a P M) (h : Q a) : ∃ p P, Rv.cell a = .cell p ∧ Has p P M ∧ Q p := ⟨a, P, rfl, c, h⟩
theorem ex_app {a : Addr} {rs : List Rv} {r : Rv} {M M3 : Mem} {Q : Mem → Prop} (c : Cell a (Is rs) (Is (rs ++ [r])) M M3) (z : rs.length < sizeLine) (h : Q M3) : ∃ rs M3, Cell a (Is rs) (Is (rs ++ [r])) M M3 ∧ rs.length < sizeLine ∧ Q M3 := ⟨rs, M3, c, z, h⟩
theorem ex_bool {c : Bool} {Q : Bool → Prop} (h : Q c) : ∃ c', Rv.d (.bool c) = .d (.bool c') ∧ Q c' := ⟨c, rfl, h⟩
theorem ex_int {c : Int} {Q : Int → Prop} (h : Q c) : ∃ c', Rv.d (.int c) = .d (.int c') ∧ Q c' := ⟨c, rfl, h⟩
theorem ex_list {c : List PyData} {Q : List PyData → Prop} (h : Q c) : ∃ c', Rv.d (.list c) = .d (.list c') ∧ Q c' := ⟨c, rfl, h⟩
theorem ex_tuple {c : List PyData} {Q : List PyData → Prop} (h : Q c) : ∃ c', Rv.d (.tuple c) = .d (.tuple c') ∧ Q c' := ⟨c, rfl, h⟩
theorem ex_rng {j : Int} {Q : Int → Prop} (h1 : -(2 ^ 62) ≤ j) (h2 : j < 2 ^ 62) (h : Q j) : ∃ j', [Rv.d (.int j)] = [.d (.int j')] ∧ -(2 ^ 62) ≤ j' ∧ j' < 2 ^ 62 ∧ Q j' := ⟨j, rfl, h1, h2, h⟩
end
/-- lists of ints, pairs -/
abbrev dI (xs : List Int) : PyData := .list (xs.map .int)
abbrev dP (a : Int) (xs : List Int) : PyData := .tuple [.int a, dI xs]
end Dl

set_option Elab.async false
set_option linter.all false
set_option maxRecDepth 100000
set_option maxHeartbeats 4000000
namespace Dl
open PySem PySem.Spec PyProof.Rows L2
section
variable {X : Cx} {N : List Str} {sc : Scope} {ρ : List Rv} {M : Mem} {Φ : Pst} {Ξ : Xi} {nx : List Rv → Mem → Prop} {rt : Pst} {bk ct : List Rv → Mem → Prop} {xx : Xi}
/-- a flag: lists written behind return may change -/
def OwnRet (X : Cx) : Prop := True
theorem sRetO {es : List Expr} {p pos : Pos} (f : OwnRet X) (h : GA X es ρ M (fun rs M1 => rs.length ≤ sizeLine ∧ ∀ q, ∃ M2, Le ((q, Is rs) :: M1) M2 ∧ rt (.cell q) M2) xx) : GS X (.Return (some (.List es p)) pos) ρ M ⟨nx, rt, bk, ct, xx⟩ := sRet (ge_own h)
/-- a name whose list may change -/
inductive MuAt : Nat → List Rv → Prop
  | m {ρ : List Rv} : MuAt 0 (.mu :: ρ)
  | c {a : Addr} {ρ : List Rv} : MuAt 0 (.cell a :: ρ)
  | s {i : Nat} {x : Rv} {ρ : List Rv} : MuAt i ρ → MuAt (i + 1) (x :: ρ)
theorem sSetO {i : Nat} {x : Str} {es : List Expr} {p pos pos' : Pos} (hv : Var X i x) (nd : X.N.Nodup) (m : MuAt i ρ) (h : GA X es ρ M (fun rs M1 => rs.length ≤ sizeLine ∧ ∀ q, ∃ ρ', SetAt (.cell q) i ρ ρ' ∧ nx ρ' ((q, Is rs) :: M1)) xx) :
    GS X (.Assign [.Name x pos'] (.List es p) pos) ρ M ⟨nx, rt, bk, ct, xx⟩ := sSet hv nd rfl (ge_own h)
theorem sParN2 {i j : Nat} {x y : Str} {a : Expr} {px py pt pt2 pl pos : Pos} {kt k2 : Nat} (hx : Var X i x) (hy : Var X j y) (hc : X.calm = true) (nd : X.N.Nodup) (hij : i ≠ j) (lx : X.env.scope.names.lookup x = some .local) (ly : X.env.scope.names.lookup y = some .local)
    (hs : swappedStores [.Tuple [.Name x px, .Name y py] kt pt] (.Tuple [a, .List [] pl] k2 pt2) X.env = pure (some [x, y])) (hw : swapsWithSole [.Tuple [.Name x px, .Name y py] kt pt] (.Tuple [a, .List [] pl] k2 pt2) pos.line X.env = pure false) (hst : starEach [a, .List [] pl] X.env = (false, eval a X.env) :: starEach [.List [] pl] X.env)
    (h : GE X a ρ M (fun r M1 => ∀ p, ∃ ρ1, SetAt r i ρ ρ1 ∧ ∃ ρ2, SetAt (.cell p) j ρ1 ρ2 ∧ nx ρ2 ((p, Is []) :: M1)) xx) : GS X (.Assign [.Tuple [.Name x px, .Name y py] kt pt] (.Tuple [a, .List [] pl] k2 pt2) pos) ρ M ⟨nx, rt, bk, ct, xx⟩ :=
  sPar hx hy hc nd hij lx ly hs hw (ga_cons hst (ge_mono h fun r M1 k => ga_cons rfl (ge_own (ga_nil ⟨Nat.zero_le _, fun p => ga_nil (let ⟨ρ1, s1, ρ2, s2, k⟩ := k p; ⟨r, .cell p, ρ1, ρ2, rfl, s1, s2, k⟩)⟩))))
theorem sParN1 {i j : Nat} {x y : Str} {a : Expr} {px py pt pt2 pl pos : Pos} {kt k2 : Nat} (hx : Var X i x) (hy : Var X j y) (hc : X.calm = true) (nd : X.N.Nodup) (hij : i ≠ j) (lx : X.env.scope.names.lookup x = some .local) (ly : X.env.scope.names.lookup y = some .local)
    (hs : swappedStores [.Tuple [.Name x px, .Name y py] kt pt] (.Tuple [.List [] pl, a] k2 pt2) X.env = pure (some [x, y])) (hw : swapsWithSole [.Tuple [.Name x px, .Name y py] kt pt] (.Tuple [.List [] pl, a] k2 pt2) pos.line X.env = pure false) (hst : starEach [a] X.env = [(false, eval a X.env)])
    (h : ∀ p, GE X a ρ ((p, Is []) :: M) (fun r M1 => ∃ ρ1, SetAt (.cell p) i ρ ρ1 ∧ ∃ ρ2, SetAt r j ρ1 ρ2 ∧ nx ρ2 M1) xx) : GS X (.Assign [.Tuple [.Name x px, .Name y py] kt pt] (.Tuple [.List [] pl, a] k2 pt2) pos) ρ M ⟨nx, rt, bk, ct, xx⟩ :=
  sPar hx hy hc nd hij lx ly hs hw (ga_cons rfl (ge_own (ga_nil ⟨Nat.zero_le _, fun p => ga_cons hst (ge_mono (h p) fun r M1 ⟨ρ1, s1, ρ2, s2, k⟩ => ga_nil ⟨.cell p, r, ρ1, ρ2, rfl, s1, s2, k⟩)⟩)))
/-- three names, the first one a list that may change -/
theorem sPar3N {i j l : Nat} {x y z : Str} {b c : Expr} {px py pz pt pt2 pl pos : Pos} {kt k2 : Nat} (hx : Var X i x) (hy : Var X j y) (hz : Var X l z) (hc : X.calm = true) (nd : X.N.Nodup) (hij : i ≠ j) (hil : i ≠ l) (hjl : j ≠ l)
    (lx : X.env.scope.names.lookup x = some .local) (ly : X.env.scope.names.lookup y = some .local) (lz : X.env.scope.names.lookup z = some .local)
    (hs : swappedStores [.Tuple [.Name x px, .Name y py, .Name z pz] kt pt] (.Tuple [.List [] pl, b, c] k2 pt2) X.env = pure (some [x, y, z])) (hw : swapsWithSole [.Tuple [.Name x px, .Name y py, .Name z pz] kt pt] (.Tuple [.List [] pl, b, c] k2 pt2) pos.line X.env = pure false)
    (hst : starEach [b, c] X.env = (false, eval b X.env) :: starEach [c] X.env) (hst2 : starEach [c] X.env = [(false, eval c X.env)])
    (h : ∀ p, GE X b ρ ((p, Is []) :: M) (fun r M1 => GE X c ρ M1 (fun q M2 => ∃ ρ1, SetAt (.cell p) i ρ ρ1 ∧ ∃ ρ2, SetAt r j ρ1 ρ2 ∧ ∃ ρ3, SetAt q l ρ2 ρ3 ∧ nx ρ3 M2) xx) xx) :
    GS X (.Assign [.Tuple [.Name x px, .Name y py, .Name z pz] kt pt] (.Tuple [.List [] pl, b, c] k2 pt2) pos) ρ M ⟨nx, rt, bk, ct, xx⟩ := fun B H σ ok env tk => by
  have hh : GA X [.List [] pl, b, c] ρ M (fun rs M1 => ∃ p r q, rs = [.cell p, r, q] ∧ ∃ ρ1, SetAt (.cell p) i ρ ρ1 ∧ ∃ ρ2, SetAt r j ρ1 ρ2 ∧ ∃ ρ3, SetAt q l ρ2 ρ3 ∧ nx ρ3 M1) xx :=
    ga_cons rfl (ge_own (ga_nil ⟨Nat.zero_le _, fun p => ga_cons hst (ge_mono (h p) fun r M1 k => ga_cons hst2 (ge_mono k fun q M2 k => ga_nil ⟨p, r, q, rfl, k⟩))⟩))
  refine sS_of (ps_par3 hc nd hx.n hy.n hz.n hij hil hjl lx ly lz pa_S hs hw) (args hh ok env tk fun vs H1 B1 M1 rs o1 f1 q1 ⟨p, r, q, e, ρ1, s1, ρ2, s2, ρ3, s3, k⟩ => ?_)
  subst e
  cases q1 with
  | cons q1 t => cases t with
    | cons q2 t => cases t with
      | cons q3 t =>
        cases t
        refine ⟨_, _, _, rfl, B1, M1, ρ3, o1, f1, ?_, k⟩
        rw [← s3.eq, ← s2.eq, ← s1.eq]
        exact env_set (.some q3) l (env_set (.some q2) j (env_set (.some q1) i (env_mono f1.ex env)))
/-! facts of the def's scope -/
theorem swap_scope {ts : List Expr} {v : Expr} {e1 e2 : Env} (h : e1.scope = e2.scope) : swappedStores ts v e1 = swappedStores ts v e2 := by
  unfold swappedStores Env.kindOf Env.blockKind
  rw [h]
abbrev dumE (sc : Scope) : Env := { scope := sc, globals := 0, locals := 0, cells := [] }
theorem Cxt.swap (cx : Cxt X N sc) {ts : List Expr} {v : Expr} {r : Sem (Option (List Str))} (h : swappedStores ts v (dumE sc) = r) : swappedStores ts v X.env = r := by
  rw [swap_scope (e2 := (dumE sc)) cx.sc]
  exact h
theorem Cxt.loc (cx : Cxt X N sc) {x : Str} (h : sc.names.lookup x = some .local) : X.env.scope.names.lookup x = some .local := by
  rw [cx.sc]; exact h
theorem Cxt.blk (cx : Cxt X N sc) {scope : Scope} {own : List (Str × Nat)} (h : blkC N sc scope own = true) : BlkOk X.N X.env.scope scope own := by
  rw [cx.hN, cx.sc]; exact blkOk_by h
theorem Cxt.sw (cx : Cxt X N sc) {elt : Expr} {gs : List Comprehension} {scope : Scope} {pos py : Pos} {y : Str} {l : Nat} (hk : sc.kind = .function) (hy : sc.names.lookup y = some .local) (hl : (py.line == pos.line) = true)
    (ha : (scope.names.any fun (n, k) => n == y && (k == .local || k == .cell)) = false) : swapsWith (.ListComp elt gs scope pos) (some (.Name y py)) l X.env = pure true := sw_true (by rw [cx.sc]; exact hk) (by rw [cx.sc]; exact hy) hl ha
/-! items at open places -/
theorem at_map {α β : Type} {xs : List α} {g : α → β} {k : Int} (h0 : 0 ≤ k) (h1 : k < xs.length) : atI (xs.map g) k = some (g (xs[k.toNat]'(by omega))) := by
  unfold atI ixN
  rw [if_pos h0, List.length_map, if_pos h1]
  simp
  exact ⟨_, List.getElem?_eq_getElem (by omega), rfl⟩
theorem at_lit {α : Type} {xs : List α} {k : Int} (h0 : 0 ≤ k) (h1 : k < xs.length) : atI xs k = some (xs[k.toNat]'(by omega)) := by
  unfold atI ixN
  rw [if_pos h0, if_pos h1]
  simp
/-- an item at an open place of a written list: whatever holds for each of them -/
theorem ix_any {ds : List PyData} {i : Int} (h0 : 0 ≤ i) (h1 : i < ds.length) (k : ∀ d ∈ ds, Φ (.d d) M) : GIx X (.d (.list ds)) (.d (.int i)) M Φ := ix_l (at_lit h0 h1) (k _ (List.getElem_mem _))
theorem gc_lenI {xs : List Int} (h : Φ (.d (.int xs.length)) M) : GC X (.builtin "len") [.d (dI xs)] M Φ := gc_lenL (by rw [List.length_map]; exact h)
theorem ix_dI {xs : List Int} {i : Int} (h0 : 0 ≤ i) (h1 : i < xs.length) (k : ∀ v, xs[i.toNat]? = some v → Φ (.d (.int v)) M) : GIx X (.d (dI xs)) (.d (.int i)) M Φ :=
  ix_l (at_map h0 h1) (k _ (List.getElem?_eq_getElem (by omega)))
theorem ix_dIlast {xs : List Int} {v : Int} (h : xs.getLast? = some v) (k : Φ (.d (.int v)) M) : GIx X (.d (dI xs)) (.d (.int (-1))) M Φ := by
  obtain ⟨ys, rfl⟩ : ∃ ys, xs = ys ++ [v] := by
    cases xs with
    | nil => simp at h
    | cons a t => exact ⟨(a :: t).dropLast, by rw [List.getLast?_eq_some_getLast (by simp)] at h; cases h; exact (List.dropLast_concat_getLast (by simp)).symm⟩
  refine ix_l (d := .int v) ?_ k
  rw [List.map_append]
  exact atI_last _ _
/-- a written list of ints of one kind -/
inductive MenuP (P : Int → Prop) : List PyData → Prop
  | nil : MenuP P []
  | cons {i : Int} {ds : List PyData} : P i → MenuP P ds → MenuP P (.int i :: ds)
theorem MenuP.mem {P : Int → Prop} {ds : List PyData} (h : MenuP P ds) : ∀ d ∈ ds, ∃ i, d = .int i ∧ P i := by
  induction h with
  | nil => intro d hd; cases hd
  | cons hi _ ih => intro d hd; rcases List.mem_cons.mp hd with rfl | hd; exact ⟨_, rfl, hi⟩; exact ih d hd
theorem ix_menu {ds : List PyData} {i : Int} (P : Int → Prop) (h0 : 0 ≤ i) (h1 : i < ds.length) (hP : MenuP P ds) (k : ∀ v, P v → Φ (.d (.int v)) M) : GIx X (.d (.list ds)) (.d (.int i)) M Φ :=
  ix_any h0 h1 fun d hd => by obtain ⟨v, rfl, hv⟩ := hP.mem d hd; exact k v hv
abbrev rI (xs : List Int) : List Rv := xs.map fun i => .d (.int i)
theorem rI_d (xs : List Int) : (xs.map PyData.int).map Rv.d = rI xs := by rw [List.map_map]; rfl
theorem rI_app (xs ys : List Int) : rI (xs ++ ys) = rI xs ++ rI ys := List.map_append
theorem gi_tupD {tg : Expr} {es : List Expr} {k : Nat} {pos : Pos} {Θ : List Rv → Mem → Prop} (h : GE X (.Tuple es k pos) ρ M (fun r M1 => ∃ ds, r = .d (.tuple ds) ∧ Θ (ds.map Rv.d) M1) Ξ) : GI X tg (.Tuple es k pos) ρ M Θ Ξ := gi_tup h
theorem for_ints {tg : Expr} {body : List Stmt} {xs : List Int} (Iv : List Int → List Rv → Mem → Prop) (h0 : Iv [] ρ M)
    (hs : ∀ pre x post ρ' M', xs = pre ++ x :: post → Iv pre ρ' M' → GG X tg (.d (.int x)) ρ' M' (fun ρ2 M2 => GSs X body ρ2 M2 ⟨Iv (pre ++ [x]), rt, nx, Iv (pre ++ [x]), xx⟩) [])
    (hd : ∀ ρ' M', Iv xs ρ' M' → nx ρ' M') : ForD X tg body ⟨nx, rt, bk, ct, xx⟩ ((xs.map PyData.int).map Rv.d) ρ M := by
  rw [rI_d]
  exact for_map Iv h0 hs hd
theorem isi_none_int (h : Φ (.d (.bool false)) M) : GC X (.builtin "isinstance") [.d .none, .raw (.ty "int")] M Φ := gc_isi (b := false) (show kitB "NoneType" "int" = some false by decide +kernel) h
theorem isi_none_bool (h : Φ (.d (.bool false)) M) : GC X (.builtin "isinstance") [.d .none, .raw (.ty "bool")] M Φ := gc_isi (b := false) (show kitB "NoneType" "bool" = some false by decide +kernel) h
theorem isi_none_list (h : Φ (.d (.bool false)) M) : GC X (.builtin "isinstance") [.d .none, .raw (.ty "list")] M Φ := gc_isi (b := false) (show kitB "NoneType" "list" = some false by decide +kernel) h
theorem isi_none_tuple (h : Φ (.d (.bool false)) M) : GC X (.builtin "isinstance") [.d .none, .raw (.ty "tuple")] M Φ := gc_isi (b := false) (show kitB "NoneType" "tuple" = some false by decide +kernel) h
theorem isi_none_str (h : Φ (.d (.bool false)) M) : GC X (.builtin "isinstance") [.d .none, .raw (.ty "str")] M Φ := gc_isi (b := false) (show kitB "NoneType" "str" = some false by decide +kernel) h
theorem isi_bool_int {b : Bool} (h : Φ (.d (.bool true)) M) : GC X (.builtin "isinstance") [.d (.bool b), .raw (.ty "int")] M Φ := gc_isi (b := true) (show kitB "bool" "int" = some true by decide +kernel) h
theorem isi_bool_bool {b : Bool} (h : Φ (.d (.bool true)) M) : GC X (.builtin "isinstance") [.d (.bool b), .raw (.ty "bool")] M Φ := gc_isi (b := true) (show kitB "bool" "bool" = some true by decide +kernel) h
theorem isi_bool_list {b : Bool} (h : Φ (.d (.bool false)) M) : GC X (.builtin "isinstance") [.d (.bool b), .raw (.ty "list")] M Φ := gc_isi (b := false) (show kitB "bool" "list" = some false by decide +kernel) h
theorem isi_bool_tuple {b : Bool} (h : Φ (.d (.bool false)) M) : GC X (.builtin "isinstance") [.d (.bool b), .raw (.ty "tuple")] M Φ := gc_isi (b := false) (show kitB "bool" "tuple" = some false by decide +kernel) h
theorem isi_bool_str {b : Bool} (h : Φ (.d (.bool false)) M) : GC X (.builtin "isinstance") [.d (.bool b), .raw (.ty "str")] M Φ := gc_isi (b := false) (show kitB "bool" "str" = some false by decide +kernel) h
theorem isi_int_int {i : Int} (h : Φ (.d (.bool true)) M) : GC X (.builtin "isinstance") [.d (.int i), .raw (.ty "int")] M Φ := gc_isi (b := true) (show kitB "int" "int" = some true by decide +kernel) h
theorem isi_int_bool {i : Int} (h : Φ (.d (.bool false)) M) : GC X (.builtin "isinstance") [.d (.int i), .raw (.ty "bool")] M Φ := gc_isi (b := false) (show kitB "int" "bool" = some false by decide +kernel) h
theorem isi_int_list {i : Int} (h : Φ (.d (.bool false)) M) : GC X (.builtin "isinstance") [.d (.int i), .raw (.ty "list")] M Φ := gc_isi (b := false) (show kitB "int" "list" = some false by decide +kernel) h
theorem isi_int_tuple {i : Int} (h : Φ (.d (.bool false)) M) : GC X (.builtin "isinstance") [.d (.int i), .raw (.ty "tuple")] M Φ := gc_isi (b := false) (show kitB "int" "tuple" = some false by decide +kernel) h
theorem isi_int_str {i : Int} (h : Φ (.d (.bool false)) M) : GC X (.builtin "isinstance") [.d (.int i), .raw (.ty "str")] M Φ := gc_isi (b := false) (show kitB "int" "str" = some false by decide +kernel) h
theorem isi_str_int {s : Str} (h : Φ (.d (.bool false)) M) : GC X (.builtin "isinstance") [.d (.str s), .raw (.ty "int")] M Φ := gc_isi (b := false) (show kitB "str" "int" = some false by decide +kernel) h
theorem isi_str_bool {s : Str} (h : Φ (.d (.bool false)) M) : GC X (.builtin "isinstance") [.d (.str s), .raw (.ty "bool")] M Φ := gc_isi (b := false) (show kitB "str" "bool" = some false by decide +kernel) h
theorem isi_str_list {s : Str} (h : Φ (.d (.bool false)) M) : GC X (.builtin "isinstance") [.d (.str s), .raw (.ty "list")] M Φ := gc_isi (b := false) (show kitB "str" "list" = some false by decide +kernel) h
theorem isi_str_tuple {s : Str} (h : Φ (.d (.bool false)) M) : GC X (.builtin "isinstance") [.d (.str s), .raw (.ty "tuple")] M Φ := gc_isi (b := false) (show kitB "str" "tuple" = some false by decide +kernel) h
theorem isi_str_str {s : Str} (h : Φ (.d (.bool true)) M) : GC X (.builtin "isinstance") [.d (.str s), .raw (.ty "str")] M Φ := gc_isi (b := true) (show kitB "str" "str" = some true by decide +kernel) h
theorem isi_list_int {l : List PyData} (h : Φ (.d (.bool false)) M) : GC X (.builtin "isinstance") [.d (.list l), .raw (.ty "int")] M Φ := gc_isi (b := false) (show kitB "list" "int" = some false by decide +kernel) h
theorem isi_list_bool {l : List PyData} (h : Φ (.d (.bool false)) M) : GC X (.builtin "isinstance") [.d (.list l), .raw (.ty "bool")] M Φ := gc_isi (b := false) (show kitB "list" "bool" = some false by decide +kernel) h
theorem isi_list_list {l : List PyData} (h : Φ (.d (.bool true)) M) : GC X (.builtin "isinstance") [.d (.list l), .raw (.ty "list")] M Φ := gc_isi (b := true) (show kitB "list" "list" = some true by decide +kernel) h
theorem isi_list_tuple {l : List PyData} (h : Φ (.d (.bool false)) M) : GC X (.builtin "isinstance") [.d (.list l), .raw (.ty "tuple")] M Φ := gc_isi (b := false) (show kitB "list" "tuple" = some false by decide +kernel) h
theorem isi_list_str {l : List PyData} (h : Φ (.d (.bool false)) M) : GC X (.builtin "isinstance") [.d (.list l), .raw (.ty "str")] M Φ := gc_isi (b := false) (show kitB "list" "str" = some false by decide +kernel) h
theorem isi_tuple_int {l : List PyData} (h : Φ (.d (.bool false)) M) : GC X (.builtin "isinstance") [.d (.tuple l), .raw (.ty "int")] M Φ := gc_isi (b := false) (show kitB "tuple" "int" = some false by decide +kernel) h
theorem isi_tuple_bool {l : List PyData} (h : Φ (.d (.bool false)) M) : GC X (.builtin "isinstance") [.d (.tuple l), .raw (.ty "bool")] M Φ := gc_isi (b := false) (show kitB "tuple" "bool" = some false by decide +kernel) h
theorem isi_tuple_list {l : List PyData} (h : Φ (.d (.bool false)) M) : GC X (.builtin "isinstance") [.d (.tuple l), .raw (.ty "list")] M Φ := gc_isi (b := false) (show kitB "tuple" "list" = some false by decide +kernel) h
theorem isi_tuple_tuple {l : List PyData} (h : Φ (.d (.bool true)) M) : GC X (.builtin "isinstance") [.d (.tuple l), .raw (.ty "tuple")] M Φ := gc_isi (b := true) (show kitB "tuple" "tuple" = some true by decide +kernel) h
theorem isi_tuple_str {l : List PyData} (h : Φ (.d (.bool false)) M) : GC X (.builtin "isinstance") [.d (.tuple l), .raw (.ty "str")] M Φ := gc_isi (b := false) (show kitB "tuple" "str" = some false by decide +kernel) h
theorem isi_dict_int {l : List (PyData × PyData)} (h : Φ (.d (.bool false)) M) : GC X (.builtin "isinstance") [.d (.dict l), .raw (.ty "int")] M Φ := gc_isi (b := false) (show kitB "dict" "int" = some false by decide +kernel) h
theorem isi_dict_bool {l : List (PyData × PyData)} (h : Φ (.d (.bool false)) M) : GC X (.builtin "isinstance") [.d (.dict l), .raw (.ty "bool")] M Φ := gc_isi (b := false) (show kitB "dict" "bool" = some false by decide +kernel) h
theorem isi_dict_list {l : List (PyData × PyData)} (h : Φ (.d (.bool false)) M) : GC X (.builtin "isinstance") [.d (.dict l), .raw (.ty "list")] M Φ := gc_isi (b := false) (show kitB "dict" "list" = some false by decide +kernel) h
theorem isi_dict_tuple {l : List (PyData × PyData)} (h : Φ (.d (.bool false)) M) : GC X (.builtin "isinstance") [.d (.dict l), .raw (.ty "tuple")] M Φ := gc_isi (b := false) (show kitB "dict" "tuple" = some false by decide +kernel) h
theorem isi_dict_str {l : List (PyData × PyData)} (h : Φ (.d (.bool false)) M) : GC X (.builtin "isinstance") [.d (.dict l), .raw (.ty "str")] M Φ := gc_isi (b := false) (show kitB "dict" "str" = some false by decide +kernel) h
theorem ge_gint {x : Str} {i : Int} {pos : Pos} (hm : Glo X x (.int i)) (hg : Gl X x) (h : Φ (.d (.int i)) M) : GE X (.Name x pos) ρ M Φ Ξ := ge_glob hm (fun _ _ => .int i) hg h
theorem ex_zip {xs ys : List PyData} {Q : List PyData → List PyData → Prop} (h : Q xs ys) : ∃ a b, [Rv.d (.list xs), Rv.d (.list ys)] = [.d (.list a), .d (.list b)] ∧ Q a b := ⟨xs, ys, rfl, h⟩
theorem zip_ints (xs ys : List Int) : (((xs.map PyData.int).zip (ys.map PyData.int)).map fun p => Rv.d (.tuple [p.1, p.2])) = (xs.zip ys).map fun p => .d (.tuple [.int p.1, .int p.2]) := by
  rw [List.zip_map, List.map_map]; rfl
theorem gt_chain {a b c : Expr} {op op' : CmpOp} {pos : Pos} {Ψ : Bool → Mem → Prop} (hm : lastMarks [op, op'] [b, c] = false)
    (h : GE X a ρ M (fun x M1 => GE X b ρ M1 (fun y M2 => G2 X (compareOp op) x y M2 fun r M3 => ∃ k, r = .d (.bool k) ∧ (k = true → GE X c ρ M3 (fun z M4 => G2 X (compareOp op') y z M4 fun r M5 => ∃ k, r = .d (.bool k) ∧ Ψ k M5) Ξ) ∧ (k = false → Ψ false M3)) Ξ) Ξ) :
    GT X (.Compare a [op, op'] [b, c] pos) ρ M Ψ Ξ := fun B H σ ok env tk =>
  tS_of (pt_chain op_S op_S pe_S pe_S pe_S hm) (one h ok env tk fun v H1 B1 M1 r o1 f1 q1 hb => one hb o1 (env_mono f1.ex env) (tk_after tk f1) fun w H2 B2 M2 y o2 f2 q2 h2 =>
    oS_mono (h2 B2 H2 v w o2 (rv_mono f2.ex q1) q2) fun z H3 ⟨B3, M3, r3, o3, f3, q3, k, e, k1, k2⟩ => by
      subst e
      have f : Fr B H M B3 H3 M3 := (f1.trans f2).trans f3
      refine ⟨k, bool_of q3, ?_⟩
      cases k with
      | true => exact one (k1 rfl) o3 (env_mono f.ex env) (tk_after tk f) fun w4 H4 B4 M4 r4 o4 f4 q4 h4 => oS_mono (h4 B4 H4 w w4 o4 (rv_mono (f3.trans f4).ex q2) q4) fun z5 H5 ⟨B5, M5, r5, o5, f5, q5, k5, e5, kk⟩ => ⟨k5, by (subst e5; exact bool_of q5), B5, M5, o5, (f.trans f4).trans f5, kk⟩
      | false => exact ⟨false, rfl, B3, M3, o3, f, k2 rfl⟩)
/-! in a comprehension's block -/
section
variable {s : Shared} {H : Hp} {scp : Scope} {ce : Env} {fp : List Addr}
theorem bNm {i : Nat} {x : Str} (h : Nm X i x) : Nm (X.blk s H scp ce fp) i x := h
theorem bNd (h : X.N.Nodup) : (X.blk s H scp ce fp).N.Nodup := h
theorem bCalm (h : X.calm = true) : (X.blk s H scp ce fp).calm = true := h
theorem bBi {x : Str} {v : Value} (h : Bi X x v) : Bi (X.blk s H scp ce fp) x v := ⟨h.m, h.b, h.n, h.d⟩
theorem bGlo {x : Str} {v : V} (h : Glo X x v) : Glo (X.blk s H scp ce fp) x v := ⟨h.ex, h.d⟩
theorem bDef {x : Str} {k : Nat} {ps : List Str} {ord : List (List Str)} {pd : Prom} (h : Def X x k ps ord pd) : Def (X.blk s H scp ce fp) x k ps ord pd := ⟨h.ex, h.d⟩
theorem bRoom {k : Nat} (h : Room k X.A) : Room k (X.blk s H scp ce fp).A := h
theorem bGu (h : X.A.guards = some []) : (X.blk s H scp ce fp).A.guards = some [] := h
theorem bMg {x : Str} (h : X.mg x = none) : (X.blk s H scp ce fp).mg x = none := h
end
/-! targets: two names; names of a comprehension -/
theorem gg_two {i j : Nat} {x y : Str} {p1 p2 pos : Pos} {kk : Nat} {a b : PyData} {Ψ : List Rv → Mem → Prop} (hx : Var X i x) (hy : Var X j y) (nd : X.N.Nodup) (hc : X.calm = true) {ρ1 ρ2 : List Rv} (s : SetAt (.d a) i ρ ρ1) (t : SetAt (.d b) j ρ1 ρ2)
    (h : Ψ ρ2 M) : GG X (.Tuple [.Name x p1, .Name y p2] kk pos) (.d (.tuple [a, b])) ρ M Ψ [] :=
  gg_tup hc (.inr ⟨[a, b], rfl, rfl⟩) rfl rfl (ggs_cons nd hx.n hx.l (.inl hx.f) (.inl rfl) rfl (ggs_cons nd hy.n hy.l (.inl hy.f) (.inl rfl) rfl (ggs_nil (by rw [s.eq, t.eq]; exact h))))
theorem gNameC {i : Nat} {x : Str} {pos : Pos} {r : Rv} {Ψ : List Rv → Mem → Prop} {vs : List Nat} (hN : Nm X i x) (nd : X.N.Nodup) (hl : X.env.scope.names.lookup x = some .local) (hvs : i ∈ vs) {ρ' : List Rv} (s : SetAt r i ρ ρ')
    (h : Ψ ρ' M) : GG X (.Name x pos) r ρ M Ψ vs := gg_name nd hN (.inl hl) (.inr hl) (.inr hvs) (by rw [s.eq]; exact h)
theorem gg_twoC {i j : Nat} {x y : Str} {p1 p2 pos : Pos} {kk : Nat} {a b : PyData} {Ψ : List Rv → Mem → Prop} {vs : List Nat} (hx : Nm X i x) (hy : Nm X j y) (nd : X.N.Nodup) (hc : X.calm = true) (lx : X.env.scope.names.lookup x = some .local) (ly : X.env.scope.names.lookup y = some .local) (mi : i ∈ vs) (mj : j ∈ vs) {ρ1 ρ2 : List Rv} (s : SetAt (.d a) i ρ ρ1) (t : SetAt (.d b) j ρ1 ρ2)
    (h : Ψ ρ2 M) : GG X (.Tuple [.Name x p1, .Name y p2] kk pos) (.d (.tuple [a, b])) ρ M Ψ vs :=
  gg_tup hc (.inr ⟨[a, b], rfl, rfl⟩) rfl rfl (ggs_cons nd hx (.inl lx) (.inr lx) (.inr mi) rfl (ggs_cons nd hy (.inl ly) (.inr ly) (.inr mj) rfl (ggs_nil (by rw [s.eq, t.eq]; exact h))))
/-! what kind a value is -/
def isI : PyData → Bool
  | .int _ => true
  | _ => false
def atL (d : PyData) (k : Int) : Bool := match d with
  | .int i => decide (k ≤ i)
  | _ => false
def inRg (d : PyData) (k m : Int) : Bool := match d with
  | .int i => decide (k ≤ i) && decide (i ≤ m)
  | _ => false
def isT : PyData → Bool
  | .int i => !decide (i = 0)
  | _ => false
def is2 : PyData → Bool
  | .tuple xs => decide ((xs.length : Int) = 2)
  | _ => false
def pdIsI : Prom := fun rs M Φ _ => ∃ d : PyData, rs = [.d d] ∧ Φ (.d (.bool (isI d))) M
def pdAtL : Prom := fun rs M Φ _ => ∃ (d : PyData) (k : Int), rs = [.d d, .d (.int k)] ∧ Φ (.d (.bool (atL d k))) M
def pdInR : Prom := fun rs M Φ _ => ∃ (d : PyData) (k m : Int), rs = [.d d, .d (.int k), .d (.int m)] ∧ Φ (.d (.bool (inRg d k m))) M
def pdIsT : Prom := fun rs M Φ _ => ∃ d : PyData, rs = [.d d] ∧ Φ (.d (.bool (isT d))) M
def pdIs2 : Prom := fun rs M Φ _ => ∃ d : PyData, rs = [.d d] ∧ Φ (.d (.bool (is2 d))) M
theorem use_isI {d : PyData} {Ξ : EV → Mem → Prop} (h : Φ (.d (.bool (isI d))) M) : pdIsI [.d d] M Φ Ξ := ⟨d, rfl, h⟩
theorem use_atL {d : PyData} {k : Int} {Ξ : EV → Mem → Prop} (h : Φ (.d (.bool (atL d k))) M) : pdAtL [.d d, .d (.int k)] M Φ Ξ := ⟨d, k, rfl, h⟩
theorem use_inRg {d : PyData} {k m : Int} {Ξ : EV → Mem → Prop} (h : Φ (.d (.bool (inRg d k m))) M) : pdInR [.d d, .d (.int k), .d (.int m)] M Φ Ξ := ⟨d, k, m, rfl, h⟩
theorem use_isT {d : PyData} {Ξ : EV → Mem → Prop} (h : Φ (.d (.bool (isT d))) M) : pdIsT [.d d] M Φ Ξ := ⟨d, rfl, h⟩
theorem use_is2 {d : PyData} {Ξ : EV → Mem → Prop} (h : Φ (.d (.bool (is2 d))) M) : pdIs2 [.d d] M Φ Ξ := ⟨d, rfl, h⟩
/-! the laws' draws -/
def Coil (k : Nat) : List Rv → Prop := fun rs => ∃ a b n : Int, rs = [.d (.int a), .d (.int b), .d (.int n)] ∧ 0 ≤ a ∧ 0 ≤ b ∧ b < 10 ^ 27 ∧ 0 ≤ n ∧ n ≤ k
theorem Coil.mono {j k : Nat} (h : j ≤ k) : ∀ rs, Coil j rs → Coil k rs := fun rs ⟨a, b, n, e, h1, h2, h3, h4, h5⟩ => ⟨a, b, n, e, h1, h2, h3, h4, by omega⟩
def pdDraw : Prom := fun rs M Φ _ => ∃ c b k M', rs = [.cell c, .d (.int b)] ∧ 0 < b ∧ b < 10 ^ 60 ∧ Cell c (Coil k) (Coil (k + 1)) M M' ∧ k ≤ 1000000 ∧ ∀ r : Int, 0 ≤ r → r < b → Φ (.d (.int r)) M'
theorem use_draw {c : Addr} {b : Int} {k : Nat} {M M' : Mem} {Φ : Pst} {Ξ : EV → Mem → Prop} (hc : Cell c (Coil k) (Coil (k + 1)) M M') (h0 : 0 < b) (h1 : b < 10 ^ 60) (hk : k ≤ 1000000) (h : ∀ r : Int, 0 ≤ r → r < b → Φ (.d (.int r)) M') : pdDraw [.cell c, .d (.int b)] M Φ Ξ := ⟨c, b, k, M', rfl, h0, h1, hc, hk, h⟩
def pdCoil : Prom := fun rs M Φ _ => ∃ (xs : List Int) (k : Int), rs = [.d (dI xs), .d (.int k)] ∧ 0 ≤ k ∧ k ≤ 100 ∧ ∀ p, Φ (.cell p) ((p, Coil 0) :: M)
/-! what stands behind the top, without a body's context -/
structure DefG (P : Program) (w : World) (K : Frg) (mg : Str → Option Value) (base : Heap) (x : Str) (k : Nat) (ps : List Str) (ord : List (List Str)) (pd : Prom) : Prop where
  ex : ∃ f fd, FnD P w K mg base k f fd ps pd ∧ mg x = some (.ref f) ∧ PySem.W.keepIn K (.ref f) = true ∧
    (∀ us : List Value, us.length = ps.length → bindArgs fd ⟨us, []⟩ = pure (ps.zip us)) ∧
    ∀ ks ∈ ord, ∀ ws : List Value, ws.length = ks.length → bindArgs fd ⟨[], ks.zip ws⟩ = pure (ps.zip (pick ks ps ws))
  d : (x == ("__debug__" : Str)) = false
theorem DefG.df {x : Str} {j k : Nat} {ps : List Str} {ord : List (List Str)} {pd : Prom} (h : DefG X.prog X.w X.K X.mg X.base x j ps ord pd) (hk : j ≤ k) : Def X x k ps ord pd := Def.mono ⟨h.ex, h.d⟩ hk
/-- a promise that asks no more -/
theorem FnD.imp {P : Program} {w : World} {K : Frg} {mg : Str → Option Value} {base : Heap} {k : Nat} {f : Addr} {fd : FuncData} {ps : List Str} {pd pd' : Prom} (F : FnD P w K mg base k f fd ps pd) (h : ∀ rs M Φ Ξ, pd' rs M Φ Ξ → pd rs M Φ Ξ) : FnD P w K mg base k f fd ps pd' :=
  ⟨fun rs M Φ Ξ q => F.len rs M Φ Ξ (h _ _ _ _ q), fun A outer s H ar us vs Q E hr hg he hb r ⟨B, M, rs, Φ, Ξ, o, a, p, q1, q2⟩ => F.run A outer s H ar us vs Q E hr hg he hb r ⟨B, M, rs, Φ, Ξ, o, a, h _ _ _ _ p, q1, q2⟩⟩
structure GloG (mg : Str → Option Value) (x : Str) (v : V) : Prop where
  ex : ∃ u, mg x = some u ∧ RelV v u
  d : (x == ("__debug__" : Str)) = false
theorem GloG.glo {x : Str} {v : V} (h : GloG X.mg x v) : Glo X x v := ⟨h.ex, h.d⟩
theorem Bi.mk' {x : Str} {v : Value} (m : X.mg x = none) (b : bootBuiltins x = some v) (n : x ≠ "__name__") (d : (x == ("__debug__" : Str)) = false) : Bi X x v := ⟨m, b, n, d⟩
end
end Dl

set_option maxRecDepth 100000
set_option linter.unusedVariables false
namespace Dl
open PySem PySem.Spec PyProof.Rows L2
/-- a value's truth -/
inductive Tru : Rv → Mem → Bool → Prop
  | b {M : Mem} {c : Bool} : Tru (.d (.bool c)) M c
  | n {M : Mem} : Tru (.d .none) M false
  | l {M : Mem} {ds : List PyData} : Tru (.d (.list ds)) M (!ds.isEmpty)
  | t {M : Mem} {ds : List PyData} : Tru (.d (.tuple ds)) M (!ds.isEmpty)
  | c {M : Mem} {p : Addr} {rs : List Rv} (h : Has p (Is rs) M) : Tru (.cell p) M (!rs.isEmpty)
variable {X : Cx} {ρ : List Rv} {M : Mem} {Φ : Pst} {Ξ : Xi}
theorem isEmpty_len {α β : Type} {xs : List α} {ys : List β} (h : xs.length = ys.length) : xs.isEmpty = ys.isEmpty := by
  cases xs <;> cases ys <;> simp_all
theorem gt_tru {e : Expr} {Ψ : Bool → Mem → Prop} (hw : ∀ whole, isTrue e X.env whole = (do let v ← whole; standAt e.pos; holding [v] (truthy v))) (ha : GE X e ρ M (fun r M1 => ∃ k, Tru r M1 k ∧ Ψ k M1) Ξ) : GT X e ρ M Ψ Ξ :=
  fun B H σ ok env tk => tS_of (pt_truth pe_S hw) (one ha ok env tk fun v H1 B1 M1 r o1 f1 q1 ⟨k, t, q⟩ => by
    refine ⟨k, ?_, B1, M1, o1, f1, q⟩
    cases t with
    | b => rw [bool_of q1]; rfl
    | n => cases q1 with | d q => cases q; rfl
    | l => cases q1 with | d q => cases q with | lst hs ha => exact .inl ⟨_, o1.ext.seq hs, by rw [isEmpty_len (DpAll.len ha)]⟩
    | t => cases q1 with | d q => cases q with | tup hs ha => exact .inr (.inl ⟨_, sq_mono o1.ext hs, by rw [isEmpty_len (DpAll.len ha)]⟩)
    | c h =>
      cases q1
      obtain ⟨_, xs, rs, hH, hx, hP⟩ := o1.mem _ h.mem
      exact .inl ⟨_, .of hH, by rw [isEmpty_len hx.length, show rs = _ from hP]⟩)
theorem ex_tB {c : Bool} {Q : Bool → Prop} (h : Q c) : ∃ k, Tru (.d (.bool c)) M k ∧ Q k := ⟨_, .b, h⟩
theorem ex_tN {Q : Bool → Prop} (h : Q false) : ∃ k, Tru (.d .none) M k ∧ Q k := ⟨_, .n, h⟩
theorem ex_tL {c : List PyData} {Q : Bool → Prop} (h : Q (!c.isEmpty)) : ∃ k, Tru (.d (.list c)) M k ∧ Q k := ⟨_, .l, h⟩
theorem ex_tT {c : List PyData} {Q : Bool → Prop} (h : Q (!c.isEmpty)) : ∃ k, Tru (.d (.tuple c)) M k ∧ Q k := ⟨_, .t, h⟩
theorem ex_tC {p : Addr} {rs : List Rv} {Q : Bool → Prop} (hc : Has p (Is rs) M) (h : Q (!rs.isEmpty)) : ∃ k, Tru (.cell p) M k ∧ Q k := ⟨_, .c hc, h⟩
theorem ge_neg {a : Expr} {pos : Pos} (ha : GE X a ρ M (fun r M1 => ∃ i, r = .d (.int i) ∧ Φ (.d (.int (-i))) M1) Ξ) : GE X (.UnaryOp .USub a pos) ρ M Φ Ξ :=
  fun B H σ ok env tk => eS_of (pe_un un_neg pe_S) (one ha ok env tk fun v H1 B1 M1 r o1 f1 q1 ⟨i, e, k⟩ => by
    subst e
    exact ⟨i, int_of q1, B1, M1, _, o1, f1, .d (.int _), k⟩)
theorem ix_cL {p : Addr} {rs : List Rv} {r : Rv} (hm : Has p (Is (rs ++ [r])) M) (k : Φ r M) : GIx X (.cell p) (.d (.int (-1))) M Φ := ix_c hm (atI_last _ _) k
theorem ix_last {ds : List PyData} {d : PyData} (h : ds.getLast? = some d) (k : Φ (.d d) M) : GIx X (.d (.list ds)) (.d (.int (-1))) M Φ := by
  obtain ⟨ys, rfl⟩ : ∃ ys, ds = ys ++ [d] := by
    cases ds with
    | nil => simp at h
    | cons a t => exact ⟨(a :: t).dropLast, by rw [List.getLast?_eq_some_getLast (by simp)] at h; cases h; exact (List.dropLast_concat_getLast (by simp)).symm⟩
  exact ix_l (atI_last _ _) k
theorem IxSet.last {r x : Rv} {xs : List Rv} : IxSet r (-1) (xs ++ [x]) (xs ++ [r]) := by
  have h : ixN (xs ++ [x]).length (-1) = some xs.length := by
    have hl : (xs ++ [x]).length = xs.length + 1 := by simp
    unfold ixN
    rw [hl]
    have e1 : ¬ (0 : Int) ≤ -1 := by decide
    simp
    try omega
  have := IxSet.any (r := r) h
  rw [show (xs ++ [x]).set xs.length r = xs ++ [r] by simp] at this
  exact this
end Dl

set_option maxRecDepth 100000
set_option linter.unusedVariables false
namespace Dl
open PySem PySem.Spec PyProof.Rows L2
/-! small data: what repr and == ask -/
structure Sh (w d : Nat) (x : PyData) : Prop where
  sw : x.showable = true
  cl : x.canLay0 = true
  dp : x.depth ≤ d
  ls : x.leavesShort 60 = true
  bk : x.bulk ≤ w
structure ShAll (w d : Nat) (xs : List PyData) : Prop where
  sw : PyData.showableAll xs = true
  cl : PyData.canLayAll0 xs = true
  dp : PyData.depthAll xs ≤ d
  ls : PyData.leavesShortAll 60 xs = true
  bk : PyData.bulkAll xs ≤ w
theorem Sh.int {i : Int} (h : i.natAbs < 10 ^ 50) : Sh 0 0 (.int i) := by
  refine ⟨?_, rfl, Nat.le_refl _, ?_, Nat.le_refl _⟩
  · have h1 : i.natAbs < 2 ^ 200 := Nat.lt_of_lt_of_le h (by decide)
    have := PySem.Flt.log2_lt_of (k := 200) (by decide) h1
    rw [PyData.showable, decide_eq_true_eq]
    omega
  · have := int_text_length_le10 (k := 50) (by decide) h
    rw [PyData.leavesShort, decide_eq_true_eq, PyData.shown_int]
    have e := PySem.ofString_length (toString i)
    omega
theorem Sh.bool {b : Bool} : Sh 0 0 (.bool b) := ⟨rfl, rfl, Nat.le_refl _, rfl, Nat.le_refl _⟩
theorem Sh.none : Sh 0 0 .none := ⟨rfl, rfl, Nat.le_refl _, rfl, Nat.le_refl _⟩
theorem ShAll.nil {d : Nat} : ShAll 0 d [] := ⟨rfl, rfl, Nat.zero_le _, rfl, Nat.le_refl _⟩
theorem ShAll.cons {w w' d : Nat} {x : PyData} {xs : List PyData} (h : Sh w d x) (t : ShAll w' d xs) : ShAll (w + 1 + w') d (x :: xs) :=
  ⟨by rw [PyData.showableAll, h.sw, t.sw]; rfl, by rw [PyData.canLayAll0, h.cl, t.cl]; rfl, by rw [PyData.depthAll]; exact Nat.max_le.mpr ⟨h.dp, t.dp⟩, by rw [PyData.leavesShortAll, h.ls, t.ls]; rfl, by rw [PyData.bulkAll]; have := h.bk; have := t.bk; omega⟩
theorem ShAll.cons2 {w w' d d' : Nat} {x : PyData} {xs : List PyData} (h : Sh w d x) (t : ShAll w' d' xs) : ShAll (w + 1 + w') (max d d') (x :: xs) :=
  .cons ⟨h.sw, h.cl, Nat.le_trans h.dp (Nat.le_max_left ..), h.ls, h.bk⟩ ⟨t.sw, t.cl, Nat.le_trans t.dp (Nat.le_max_right ..), t.ls, t.bk⟩
theorem ShAll.nil0 : ShAll 0 0 [] := .nil
theorem Sh.mono {w w' d d' : Nat} {x : PyData} (h : Sh w d x) (hw : w ≤ w') (hd : d ≤ d') : Sh w' d' x := ⟨h.sw, h.cl, Nat.le_trans h.dp hd, h.ls, Nat.le_trans h.bk hw⟩
theorem Sh.list {w d : Nat} {xs : List PyData} (h : ShAll w d xs) : Sh w (d + 1) (.list xs) := ⟨h.sw, h.cl, Nat.succ_le_succ h.dp, h.ls, h.bk⟩
theorem Sh.tuple {w d : Nat} {xs : List PyData} (h : ShAll w d xs) : Sh w (d + 1) (.tuple xs) := ⟨h.sw, h.cl, Nat.succ_le_succ h.dp, h.ls, h.bk⟩
theorem ShAll.ints : ∀ {xs : List Int}, (∀ x ∈ xs, x.natAbs < 10 ^ 50) → ShAll xs.length 0 (xs.map PyData.int)
  | [], _ => .nil
  | x :: xs, h => by
    have := ShAll.cons (Sh.int (h x (List.mem_cons_self ..))) (ShAll.ints (xs := xs) fun y hy => h y (List.mem_cons_of_mem _ hy))
    rw [List.length_cons, List.map_cons]
    rw [show xs.length + 1 = 0 + 1 + xs.length by omega]
    exact this
theorem Sh.dI {xs : List Int} (h : ∀ x ∈ xs, x.natAbs < 10 ^ 50) : Sh xs.length 1 (dI xs) := .list (.ints h)
theorem Sh.shaped {w d : Nat} {x : PyData} (h : Sh w d x) (hd : d ≤ 64) : SeqAt.shaped x = true := by
  rw [SeqAt.shaped, h.cl, Bool.true_and, decide_eq_true_eq]; exact Nat.le_trans h.dp hd
theorem Sh.line {w d : Nat} {x : PyData} (h : Sh w d x) (hw : w ≤ 100000) : x.shown.length ≤ sizeLine := by
  have h1 := PyData.shown_le_bulk 60 (by decide) x h.ls
  have h2 := h.bk
  have h3 : sizeLine = 16777216 := sizeLine_eq
  omega
theorem Sh.eqv {w d : Nat} {x : PyData} (h : Sh w d x) : PyData.eqv x x = true := SeqAt.eqv_refl _ h.cl
/-! data of small depth: what == asks -/
structure Lo (d : Nat) (x : PyData) : Prop where
  cl : x.canLay0 = true
  dp : x.depth ≤ d
structure LoAll (d : Nat) (xs : List PyData) : Prop where
  cl : PyData.canLayAll0 xs = true
  dp : PyData.depthAll xs ≤ d
theorem Lo.int {i : Int} : Lo 0 (.int i) := ⟨rfl, Nat.le_refl _⟩
theorem Lo.bool {b : Bool} : Lo 0 (.bool b) := ⟨rfl, Nat.le_refl _⟩
theorem Lo.none : Lo 0 .none := ⟨rfl, Nat.le_refl _⟩
theorem LoAll.nil : LoAll 0 [] := ⟨rfl, Nat.le_refl _⟩
theorem LoAll.cons {d d' : Nat} {x : PyData} {xs : List PyData} (h : Lo d x) (t : LoAll d' xs) : LoAll (max d d') (x :: xs) :=
  ⟨by rw [PyData.canLayAll0, h.cl, t.cl]; rfl, by rw [PyData.depthAll]; exact Nat.max_le.mpr ⟨Nat.le_trans h.dp (Nat.le_max_left ..), Nat.le_trans t.dp (Nat.le_max_right ..)⟩⟩
theorem Lo.list {d : Nat} {xs : List PyData} (h : LoAll d xs) : Lo (d + 1) (.list xs) := ⟨h.cl, Nat.succ_le_succ h.dp⟩
theorem Lo.tuple {d : Nat} {xs : List PyData} (h : LoAll d xs) : Lo (d + 1) (.tuple xs) := ⟨h.cl, Nat.succ_le_succ h.dp⟩
theorem LoAll.of {d : Nat} : ∀ {xs : List PyData}, (∀ x ∈ xs, Lo d x) → LoAll d xs
  | [], _ => ⟨rfl, Nat.zero_le _⟩
  | x :: xs, h => by
    have := LoAll.cons (h x (List.mem_cons_self ..)) (LoAll.of (xs := xs) fun y hy => h y (List.mem_cons_of_mem _ hy))
    rw [Nat.max_self] at this
    exact this
theorem LoAll.ints {xs : List Int} : LoAll 0 (xs.map PyData.int) := .of fun x hx => by
  obtain ⟨i, _, rfl⟩ := List.mem_map.mp hx
  exact .int
theorem Lo.dI {xs : List Int} : Lo 1 (dI xs) := .list .ints
theorem Lo.dP {d : Int} {xs : List Int} : Lo 2 (dP d xs) := .tuple (.cons .int (.cons .dI .nil))
theorem Lo.shaped {d : Nat} {x : PyData} (h : Lo d x) (hd : d ≤ 64) : SeqAt.shaped x = true := by
  rw [SeqAt.shaped, h.cl, Bool.true_and, decide_eq_true_eq]; exact Nat.le_trans h.dp hd
theorem Lo.eqv {d : Nat} {x : PyData} (h : Lo d x) : PyData.eqv x x = true := SeqAt.eqv_refl _ h.cl
theorem Sh.lo {w d : Nat} {x : PyData} (h : Sh w d x) : Lo d x := ⟨h.cl, h.dp⟩
theorem Le.pre : ∀ (G : Mem) {M : Mem}, Le (G ++ M) M
  | [], M => .refl M
  | _ :: G, _ => .drop (Le.pre G)
/-! what a value is now -/
mutual
inductive Snap (M : Mem) : Rv → PyData → Prop
  | d {x : PyData} : Snap M (.d x) x
  | c {p : Addr} {rs : List Rv} {ds : List PyData} (h : Has p (Is rs) M) (hs : SnapAll M rs ds) : Snap M (.cell p) (.list ds)
  | t {rs : List Rv} {ds : List PyData} (hs : SnapAll M rs ds) : Snap M (.tup rs) (.tuple ds)
inductive SnapAll (M : Mem) : List Rv → List PyData → Prop
  | nil : SnapAll M [] []
  | cons {r : Rv} {rs : List Rv} {d : PyData} {ds : List PyData} : Snap M r d → SnapAll M rs ds → SnapAll M (r :: rs) (d :: ds)
end
theorem SnapAll.all {M : Mem} : ∀ {ds : List PyData}, SnapAll M (ds.map Rv.d) ds
  | [] => .nil
  | _ :: _ => .cons .d .all
theorem SnapAll.rI {M : Mem} {xs : List Int} : SnapAll M (rI xs) (xs.map PyData.int) := by rw [← rI_d]; exact .all
mutual
theorem Snap.dp {K : Frg} {B H : Hp} {M : Mem} (ok : Ok K B H M) : ∀ {r : Rv} {d : PyData} {v : V}, Snap M r d → RvOk K B v r → Dp K H v d
  | _, _, _, .d, q => by cases q with | d q => exact dp_mono ok.ext _ q
  | _, _, _, .c h hs, q => by
    cases q
    obtain ⟨_, xs, rs', hH, hx, hP⟩ := ok.mem _ h.mem
    have e : rs' = _ := hP
    subst e
    exact .lst (.of hH) (SnapAll.dp ok hs hx)
  | _, _, _, .t hs, q => by
    cases q with | tup h ha => exact .tup (sq_mono ok.ext h) (SnapAll.dp ok hs ha)
theorem SnapAll.dp {K : Frg} {B H : Hp} {M : Mem} (ok : Ok K B H M) : ∀ {rs : List Rv} {ds : List PyData} {vs : List V}, SnapAll M rs ds → RvAll K B vs rs → DpAll K H vs ds
  | _, _, _, .nil, q => by cases q; exact .nil
  | _, _, _, .cons h t, q => by cases q with | cons a b => exact .cons (Snap.dp ok h a) (SnapAll.dp ok t b)
end
variable {X : Cx} {ρ : List Rv} {M : Mem} {Φ : Pst} {Ξ : Xi}
theorem g2_eqN {r q : Rv} {d e : PyData} {k1 k2 : Nat} (hu : X.A.units + 64 < cLine) (s1 : Snap M r d) (s2 : Snap M q e) (a1 : Lo k1 d) (a2 : Lo k2 e) (b1 : k1 ≤ 64) (b2 : k2 ≤ 64) (h : Φ (.d (.bool (PyData.eqv d e))) M) : G2 X (compareOp .Eq) r q M Φ :=
  g2_mk (op_eqD hu) fun B H v w ok a b => ⟨d, e, s1.dp ok a, s2.dp ok b, a1.shaped b1, a2.shaped b2, post_same ok (.d (.bl _)) h⟩
theorem g2_neN {r q : Rv} {d e : PyData} {k1 k2 : Nat} (hu : X.A.units + 64 < cLine) (s1 : Snap M r d) (s2 : Snap M q e) (a1 : Lo k1 d) (a2 : Lo k2 e) (b1 : k1 ≤ 64) (b2 : k2 ≤ 64) (h : Φ (.d (.bool (!PyData.eqv d e))) M) : G2 X (compareOp .NotEq) r q M Φ :=
  g2_mk (op_neD hu) fun B H v w ok a b => ⟨d, e, s1.dp ok a, s2.dp ok b, a1.shaped b1, a2.shaped b2, post_same ok (.d (.bl _)) h⟩
theorem gc_reprN {r : Rv} {ds : List PyData} {w k : Nat} (hg : X.A.guards = some []) (hu : X.A.units + 64 < cLine) (s : Snap M r (.list ds)) (a : Sh w k (.list ds)) (b1 : k ≤ 60) (b2 : w ≤ 100000) (h : Φ (.d (.str (PyData.list ds).shown)) M) : GC X (.builtin "repr") [r] M Φ :=
  gc_mk (call_repr hg a.sw (by have := a.dp; omega) (a.line b2)) fun B H vs ok q => by
    cases q with
    | cons q t =>
      cases t
      have q' := s.dp ok q
      cases q' with
      | lst h1 h2 => exact ⟨_, rfl, .lst h1 h2, post_same ok (.d (.str _)) h⟩
/-! list displays, either way -/
def LstK (rs : List Rv) (M : Mem) (Φ : Pst) : Prop := (∃ ds : List PyData, rs = ds.map Rv.d ∧ ds.length ≤ sizeLine ∧ Φ (.d (.list ds)) M) ∨ (rs.length ≤ sizeLine ∧ ∀ p, Φ (.cell p) ((p, Is rs) :: M))
theorem lst_two {es : List Expr} {pos : Pos} (h : GA X es ρ M (fun rs M1 => LstK rs M1 Φ) Ξ) : GE X (.List es pos) ρ M Φ Ξ :=
  fun B H σ ok env tk => eS_of (pe_lst pa_S) (args h ok env tk fun vs H1 B1 M1 rs o1 f1 q1 z => by
    rcases z with ⟨ds, e, z, k⟩ | ⟨z, k⟩
    · subst e
      refine ⟨by rw [q1.length, List.length_map]; exact z, fun p hp => postE_after f1 (post_frz o1 hp (.d (.lst (.of upd_same) (dpAll_mono (same_new (sub_none o1.ext hp)) _ q1.data))) k)⟩
    · refine ⟨by rw [q1.length]; exact z, fun p hp => postE_after f1 (post_own (P := Is rs) o1 hp q1 rfl (k p))⟩)
theorem ex_lD {rs : List Rv} {ds : List PyData} (c : DataL rs ds) (z : ds.length ≤ sizeLine) (h : Φ (.d (.list ds)) M) : LstK rs M Φ := .inl ⟨ds, c.eq, z, h⟩
theorem ex_lO {rs : List Rv} (z : rs.length ≤ sizeLine) (h : ∀ p, Φ (.cell p) ((p, Is rs) :: M)) : LstK rs M Φ := .inr ⟨z, h⟩
end Dl

set_option maxRecDepth 100000
set_option linter.unusedVariables false
namespace Dl
open PySem PySem.Spec PyProof.Rows L2
/-! ## the end: the call of law, by its promise -/
/-- the tracked heap: the script alone, where the module's part does not hold it -/
def Hs (K : Frg) (a : Addr) (o : Obj) (ns : List Int) : Hp := fun b => if b = a ∧ K.lookup a = none then some (.frz o (.lst (ns.map V.int))) else none
theorem Hs.at {K : Frg} {a b : Addr} {o : Obj} {ns : List Int} {u : HO} (h : Hs K a o ns b = some u) : b = a ∧ K.lookup a = none ∧ u = .frz o (.lst (ns.map V.int)) := by
  unfold Hs at h
  by_cases c : b = a ∧ K.lookup a = none
  · rw [if_pos c] at h; cases h; exact ⟨c.1, c.2, rfl⟩
  · rw [if_neg c] at h; cases h
theorem ints_dp {K : Frg} {H : Hp} : ∀ (ns : List Int), DpAll K H (ns.map V.int) (ns.map PyData.int)
  | [] => .nil
  | n :: ns => .cons (.int n) (ints_dp ns)
theorem callD {P : Program} {w : World} {K : Frg} {mg mb : Str → Option Value} {k : Nat} {fa a : Addr} {fd : FuncData} {x : Str} {pd : Prom} {s : Shared} {vs : List Value} {ns : List Int}
    (KX : K.In s.heap) (hns : s.heap.Ns mainGlobals mg) (hb : s.heap.Ns builtinsNs mb) (hbb : ∀ x : Str, x ≠ "__name__" → mb x = bootBuiltins x) (hlim : s.heap.NoLimit) (hg : s.gens = #[])
    (ha : s.heap.get? a = some { cls := .type "list", data := .seq vs.toArray }) (hi : IntsAre vs ns) (hl : ns.length ≤ sizeLine) (hr : Room k callerA)
    (F : ∀ base : Heap, K.In base → base.Ns mainGlobals mg → FnD P w K mg base k fa fd [x] pd) (hbind : ∀ (s : Shared) (u : Value), BindsTo s fd ⟨[u], []⟩ [(x, u)])
    (hpd : pd [.d (dI ns)] [] (fun r _ => r = .d (.bool true)) (fun _ _ => False)) :
    codeAny (model P w) callerA (.call (.ref fa) ⟨[.ref a], []⟩) (fun r s' => r = .ok (.ret (.bool true)) ∧ OldK s.heap s'.heap ∧ s'.os = s.os ∧ AllBare s'.gens) s := by
  obtain ⟨H, eH⟩ : ∃ H, H = Hs K a { cls := .type "list", data := .seq vs.toArray } ns := ⟨_, rfl⟩
  have at' : ∀ {b : Addr} {u : HO}, H b = some u → b = a ∧ K.lookup a = none ∧ u = .frz { cls := .type "list", data := .seq vs.toArray } (.lst (ns.map V.int)) := fun h => Hs.at (eH ▸ h)
  have sq : SqL K H a (ns.map V.int) := by
    cases hk : K.lookup a with
    | none => exact .inl (.inr ⟨_, by rw [eH]; exact if_pos ⟨rfl, hk⟩⟩)
    | some o =>
      have e := KX a o hk
      rw [ha] at e
      cases e
      exact .inr ⟨_, vs.toArray, _, hk, rfl, rfl, rfl, by rw [List.size_toArray, hi.length]; exact hl, by simpa using vals_ints hi⟩
  have dict_out : ∀ {b : Addr} {o : Obj} {es : Array DictEntry} {ep : Nat}, s.heap.get? b = some o → o.data = .dict es ep → H b = none := fun {b o es ep} e d => by
    cases q : H b with
    | none => rfl
    | some u =>
      obtain ⟨rfl, _, _⟩ := at' q
      rw [ha] at e
      cases e
      cases d
  have ns_at : ∀ {b : Addr} {m : Str → Option Value}, s.heap.Ns b m → (hidT s.heap H).Ns b m := fun ⟨o, es, ep, e, d, r⟩ => ⟨o, es, ep, hidT_get e (dict_out e d), d, r⟩
  have KB : K.In (hidT s.heap H) := fun b o e => hidT_get (KX b o e) (by
    cases q : H b with
    | none => rfl
    | some u =>
      obtain ⟨rfl, z, _⟩ := at' q
      rw [e] at z
      cases z)
  have ok : HOk P w H s.heap := fun b u z => by
    obtain ⟨rfl, _, rfl⟩ := at' z
    exact ⟨ha, by rw [List.length_map]; exact hl, vs, _, vals_ints hi, ha⟩
  have e0 : Env0 P w K mg (hidT s.heap H) callerA [] s H :=
    ⟨rfl, ⟨KB, ns_at hns, ⟨mb, ns_at hb, hbb⟩, let ⟨mc, h1, h2⟩ := hlim; ⟨mc, ns_at h1, h2⟩⟩, fun b o e => of_hidT e, Nat.le_of_eq (hidT_size _ _), trivial, fun b z => absurd z List.not_mem_nil, ok, .of_eq hg⟩
  have okD : Ok K H H [] := ⟨Same.refl _, fun p hp => absurd hp List.not_mem_nil, List.nodup_nil⟩
  refine codeAny_mono ((F _ KB (ns_at hns)).run callerA [] s H ⟨[.ref a], []⟩ [.ref a] [.ref a] (fun v _ => v = .bl true) (fun _ _ _ => False) hr rfl e0 (hbind s (.ref a)) (.cons rfl .nil)
    ⟨H, [], [.d (dI ns)], _, _, okD, .cons (.d (.lst sq (ints_dp ns))) .nil, hpd, fun v H' ⟨B1, M1, r, o1, f1, q1, e⟩ => by subst e; exact bool_of q1, fun cls d H' z => by
      obtain ⟨_, _, _, _, _, _, z⟩ := z
      exact z⟩) fun r s' h => ?_
  cases r with
  | error e =>
    obtain ⟨_, _, _, _, _, _, _, _, _, _, _, _, z⟩ := h
    exact z.elim
  | ok fl =>
    cases fl with
    | next => exact False.elim h
    | brk => exact False.elim h
    | cont => exact False.elim h
    | ret u =>
      obtain ⟨v, H', os, bare, un, ok', r', rfl⟩ := h
      obtain rfl : u = Value.bool true := r'
      refine ⟨rfl, OldK.of_keep fun b o e => ?_, os, bare⟩
      cases q : H b with
      | none => exact un.keep b o e q List.not_mem_nil List.not_mem_nil
      | some u =>
        obtain ⟨_, _, rfl⟩ := at' q
        obtain ⟨e1, _⟩ := ok b _ q
        obtain ⟨e2, _⟩ := ok' b _ (un.frzs b _ _ q)
        rw [e1] at e
        cases e
        exact e2
/-- what the top has written: a def; an int -/
def FunIn (K : Frg) (x qual : Str) (st : Stmt) : Prop := ∃ (f : Addr) (oc : Value) (od an : Option Addr) (sl : Array (Option Value)) (kV dc pm cd ct : Value),
  PySem.W.nsIn K mainGlobals x = some (some (.ref f)) ∧ K.lookup f = some ⟨oc, od, .func (PySem.W.fnOf x qual (defArgs st) (defBody st) (defScope st) .none kV dc pm an cd ct), sl⟩ ∧ PySem.W.codeIn K cd qual = true ∧ PySem.W.keepIn K (.ref f) = true
theorem fi {K : Frg} {x qual : Str} {st : Stmt} {f : Addr} {oc : Value} {od an : Option Addr} {sl : Array (Option Value)} {kV dc pm cd ct : Value} (a : PySem.W.nsIn K mainGlobals x = some (some (.ref f)))
    (l : K.lookup f = some ⟨oc, od, .func (PySem.W.fnOf x qual (defArgs st) (defBody st) (defScope st) .none kV dc pm an cd ct), sl⟩) (c : PySem.W.codeIn K cd qual = true) (k : PySem.W.keepIn K (.ref f) = true) : FunIn K x qual st :=
  ⟨f, oc, od, an, sl, kV, dc, pm, cd, ct, a, l, c, k⟩
def ConIn (K : Frg) (x : Str) (v : V) : Prop := ∃ u : Value, PySem.W.nsIn K mainGlobals x = some (some u) ∧ RelV v u
theorem ci {K : Frg} {x : Str} {i : Int} {t : Tok} (a : PySem.W.nsIn K mainGlobals x = some (some (.int i t))) : ConIn K x (.int i) := ⟨_, a, t, rfl⟩
theorem ConIn.glo {K : Frg} {h : Heap} {mg : Str → Option Value} {x : Str} {v : V} (j : ConIn K x v) (X : K.In h) (G : h.Ns mainGlobals mg) (d : (x == ("__debug__" : Str)) = false) : GloG mg x v := by
  obtain ⟨u, a, r⟩ := j
  exact ⟨⟨u, PySem.W.mg_of X G a, r⟩, d⟩
theorem walk_D {l : PySem.W.OpenLaw} {n k : Nat} {q : Program} {loose : List Str} {XP : (Str → Option Value) → Heap → Prop} {YP : World → Heap → Prop} {d : DefRec} {K : Params → Frg} {pd : Prom} {x : Str}
    (hn : l.most = some n) (hn2 : n ≤ sizeLine) (hdf : d.params.defaults = []) (hr : Room k callerA) (hY : ∀ (w : World) (h : Heap), YP w h → (K w.params).In h)
    (F : ∀ (w : World) (mg : Str → Option Value) (fa : Addr) (h : Heap), (K w.params).In h → h.Ns mainGlobals mg → mg d.name = some (.ref fa) →
      ∃ fd : FuncData, (∀ (s : Shared) (u : Value), BindsTo s fd ⟨[u], []⟩ [(x, u)]) ∧ ∀ base : Heap, (K w.params).In base → base.Ns mainGlobals mg → FnD l.prog w (K w.params) mg base k fa fd [x] pd)
    (hpd : ∀ ns : List Int, ns.length ≤ n → pd [.d (dI ns)] [] (fun r _ => r = .d (.bool true)) (fun _ _ => False)) :
    PySem.W.WalkO q loose XP YP l.row.toRowW d [] (fun f vs => PySem.call f vs) := by
  refine Att.attach_call hn hdf fun w s₀ s₁ mg mb fa o pm cd doc a vs ns G Y ho hd hcd hmg hobj hints hlen hg => ?_
  obtain ⟨fd, hb, hF⟩ := F w mg fa _ (hY w _ Y) G.T.g hmg
  exact callD (hY w _ Y) G.T.g G.T.b G.T.builtins G.T.nolimit hg hobj hints (Nat.le_trans hlen hn2) hr hF hb (hpd ns hlen)
end Dl

set_option Elab.async false
set_option linter.all false
set_option maxRecDepth 100000
namespace IR
open PySem PySem.Spec PyProof.Rows L2 Dl
/-! ## values, memory, results -/
inductive Vl where
  | non
  | bl (b : Bool)
  | int (i : Int)
  | str (s : Str)
  | tup (xs : List Vl)
  | cell (n : Nat)
  | frz (ns : List Int)
  | lst (xs : List Vl)
instance : Inhabited Vl := ⟨.non⟩
abbrev Mm := List (List Vl)
abbrev Ev := List (Option Vl)
structure Exn where
  cls : Str
  fs : Option (List (Str × PyData))
inductive R (α : Type) where
  | ok (a : α) (h : Mm)
  | err (x : Exn) (h : Mm)
  | bad
@[simp] def R.bind {α β : Type} : R α → (α → Mm → R β) → R β
  | .ok a h, f => f a h
  | .err x h, _ => .err x h
  | .bad, _ => .bad
inductive RS where
  | next (ρ : Ev) (h : Mm)
  | ret (v : Vl) (h : Mm)
  | brk (ρ : Ev) (h : Mm)
  | cont (ρ : Ev) (h : Mm)
  | err (x : Exn) (ρ : Ev) (h : Mm)
  | bad
@[simp] def R.bindS {α : Type} (ρ : Ev) : R α → (α → Mm → RS) → RS
  | .ok a h, f => f a h
  | .err x h, _ => .err x ρ h
  | .bad, _ => .bad
/-! ## the language -/
inductive Op where | add | sub | mul | fdiv | mod | pow deriving DecidableEq
inductive Cp where | lt | le | gt | ge | eq | ne | is | isNot deriving DecidableEq
inductive Ty where | int | bool | str | list | tuple deriving DecidableEq
inductive Bi where | len | abs | max | min | toInt | list | tuple | sum | all | repr deriving DecidableEq
inductive Tg where
  | nm (i : Nat)
  | tup (ts : List Tg)
inductive E where
  | int (i : Int) | bl (b : Bool) | non | str (s : Str)
  | loc (i : Nat)
  | bin (o : Op) (a b : E)
  | cmp (o : Cp) (a b : E)
  | chain (o p : Cp) (a b c : E)
  | and (a b : E) | or (a b : E) | not (a : E) | neg (a : E)
  | ite (c a b : E)
  | tup (es : List E) | lst (es : List E)
  | ix (a b : E)
  | slice (a : E) (lo hi : Option E)
  | call (f : Str) (es : List E)
  | callk (f : Str) (es : List E) (perm : List Nat)
  | bi (b : Bi) (es : List E)
  | isi (e : E) (t : Ty)
  | app (o e : E)
  | lc (tg : Tg) (it : E) (ifs : List E) (elt : E) (vs : List Nat)
  | rng1 (a : E) | rng2 (a b : E) | rng3 (a b c : E) | zip (a b : E) | enum (a : E) | over (a : E)
  | tru (a : E)
  | frz (a : E)
  | fls (es : List E)
  | fcall (f : Str) (es : List E)
  | fcallk (f : Str) (es : List E) (perm : List Nat)
  | stop
inductive S where
  | set (i : Nat) (e : E)
  | par (is : List Nat) (es : List E)
  | tset (tg : Tg) (e : E)
  | setix (o i e : E)
  | ife (c : E) (a b : List S)
  | forS (tg : Tg) (it : E) (body : List S)
  | ret (e : E) | retN
  | expr (e : E) | pass | brk | cont | stop
/-! ## what values are now -/
def snapL (f : Vl → Option PyData) : List Vl → Option (List PyData)
  | [] => some []
  | x :: xs => match f x, snapL f xs with
    | some d, some ds => some (d :: ds)
    | _, _ => none
def snap : Nat → Mm → Vl → Option PyData
  | _, _, .non => some .none
  | _, _, .bl b => some (.bool b)
  | _, _, .int i => some (.int i)
  | _, _, .str s => some (.str s)
  | _, _, .frz ns => some (dI ns)
  | n + 1, h, .lst xs => (snapL (snap n h) xs).map .list
  | n + 1, h, .tup xs => (snapL (snap n h) xs).map .tuple
  | n + 1, h, .cell c => match h[c]? with
    | some xs => (snapL (snap n h) xs).map .list
    | none => none
  | 0, _, _ => none
def seqOf (h : Mm) : Vl → Option (List Vl)
  | .cell n => h[n]?
  | .frz ns => some (ns.map .int)
  | .lst xs => some xs
  | _ => none
def truth (h : Mm) : Vl → Option Bool
  | .bl b => some b
  | .non => some false
  | .tup xs => some (!xs.isEmpty)
  | .cell n => h[n]?.map fun xs => !xs.isEmpty
  | .lst xs => some (!xs.isEmpty)
  | .int i => some (decide (i ≠ 0))
  | _ => none
/-! ## operators -/
def big (i : Int) : Bool := decide (i.natAbs < 2 ^ 1000)
def wid (i : Int) : Bool := decide (i.natAbs < 2 ^ 20000)
def small (i : Int) : Bool := decide (-(2 ^ 62) ≤ i) && decide (i < 2 ^ 62)
def repL (xs : List Vl) (n : Nat) : List Vl := (List.replicate n xs).flatten
def binV (o : Op) (x y : Vl) (h : Mm) : R Vl :=
  match x, y with
  | .int i, .int j =>
    match o with
    | .add => .ok (.int (i + j)) h
    | .sub => .ok (.int (i - j)) h
    | .mul => if wid i && wid j then .ok (.int (i * j)) h else .bad
    | .fdiv => if decide (0 < j) && big j then .ok (.int (i / j)) h else .bad
    | .mod => if 0 < j then .ok (.int (i % j)) h else .bad
    | .pow => if big i && decide (0 ≤ j) && decide (j ≤ 1000) then .ok (.int (i ^ j.toNat)) h else .bad
  | .cell a, .cell b =>
    match o with
    | .add => match h[a]?, h[b]? with
      | some xs, some ys => if xs.length + ys.length ≤ sizeLine then .ok (.cell h.length) (h ++ [xs ++ ys]) else .bad
      | _, _ => .bad
    | _ => .bad
  | .lst xs, .lst ys =>
    match o with
    | .add => if xs.length + ys.length ≤ sizeLine then .ok (.lst (xs ++ ys)) h else .bad
    | _ => .bad
  | .cell a, .lst ys =>
    match o with
    | .add => match h[a]? with
      | some xs => if xs.length + ys.length ≤ sizeLine then .ok (.cell h.length) (h ++ [xs ++ ys]) else .bad
      | _ => .bad
    | _ => .bad
  | .cell a, .int k =>
    match o with
    | .mul => match h[a]? with
      | some xs => if small k && decide (xs.length * k.toNat ≤ sizeLine) then .ok (.cell h.length) (h ++ [repL xs k.toNat]) else .bad
      | _ => .bad
    | _ => .bad
  | _, _ => .bad
def eqV (x y : Vl) (h : Mm) : Option Bool := match x, y with
  | .str s, .str t => some (decide (s = t))
  | _, _ => match snap 8 h x, snap 8 h y with
    | some d, some e => if SeqAt.shaped d && SeqAt.shaped e then some (PyData.eqv d e) else none
    | _, _ => none
def cmpV (o : Cp) (x y : Vl) (h : Mm) : R Vl :=
  match o with
  | .eq => match eqV x y h with
    | some b => .ok (.bl b) h
    | none => .bad
  | .ne => match eqV x y h with
    | some b => .ok (.bl (!b)) h
    | none => .bad
  | .is => match x, y with
    | .non, .non => .ok (.bl true) h
    | _, .non => .ok (.bl false) h
    | _, _ => .bad
  | .isNot => match x, y with
    | .non, .non => .ok (.bl false) h
    | _, .non => .ok (.bl true) h
    | _, _ => .bad
  | .lt => match x, y with
    | .int i, .int j => .ok (.bl (decide (i < j))) h
    | _, _ => .bad
  | .le => match x, y with
    | .int i, .int j => .ok (.bl (decide (i ≤ j))) h
    | _, _ => .bad
  | .gt => match x, y with
    | .int i, .int j => .ok (.bl (decide (j < i))) h
    | _, _ => .bad
  | .ge => match x, y with
    | .int i, .int j => .ok (.bl (decide (j ≤ i))) h
    | _, _ => .bad
def ixV (x y : Vl) (h : Mm) : R Vl :=
  match y with
  | .int i => match x with
    | .cell n => match h[n]? with
      | some xs => match atI xs i with
        | some v => .ok v h
        | none => .bad
      | none => .bad
    | .tup xs => match atI xs i with
      | some v => .ok v h
      | none => .bad
    | .lst xs => match atI xs i with
      | some v => .ok v h
      | none => .bad
    | .frz ns => match atI ns i with
      | some v => .ok (.int v) h
      | none => .bad
    | .str z => if z.length ≤ sizeLine then match atI z.cps.toList i with
      | some c => .ok (.str ⟨#[c]⟩) h
      | none => .bad else .bad
    | _ => .bad
  | _ => .bad
def sliceV (x : Vl) (lo hi : Option Int) (h : Mm) : R Vl :=
  match x with
  | .lst xs => .ok (.lst (Dl.cutD xs lo hi)) h
  | x => match seqOf h x with
    | some xs => .ok (.cell h.length) (h ++ [Dl.cutD xs lo hi])
    | none => .bad
def isiV : Vl → Ty → Bool
  | .int _, .int => true
  | .bl _, .int => true
  | .bl _, .bool => true
  | .str _, .str => true
  | .tup _, .tuple => true
  | .cell _, .list => true
  | .frz _, .list => true
  | .lst _, .list => true
  | _, _ => false
def asInts : List Vl → Option (List Int)
  | [] => some []
  | .int i :: xs => (asInts xs).map (i :: ·)
  | _ :: _ => none
def asBools : List Vl → Option (List Bool)
  | [] => some []
  | .bl i :: xs => (asBools xs).map (i :: ·)
  | _ :: _ => none
def reprOk (d : PyData) : Bool := d.showable && d.canLay0 && decide (d.depth ≤ 60) && d.leavesShort 60 && decide (d.bulk ≤ 100000)
def maxOf : List Int → Int
  | [] => 0
  | a :: as => as.foldl Max.max a
def minOf : List Int → Int
  | [] => 0
  | a :: as => as.foldl Min.min a
def biV (b : Bi) (xs : List Vl) (h : Mm) : R Vl :=
  match b, xs with
  | .len, [.tup ys] => .ok (.int ys.length) h
  | .len, [x] => match seqOf h x with
    | some ys => .ok (.int ys.length) h
    | none => .bad
  | .abs, [.int i] => .ok (.int i.natAbs) h
  | .max, [.int i, .int j] => .ok (.int (Max.max i j)) h
  | .min, [.int i, .int j] => .ok (.int (Min.min i j)) h
  | .max, [x] => match seqOf h x with
    | some ys => match asInts ys with
      | some is => if is.isEmpty then .bad else .ok (.int (maxOf is)) h
      | none => .bad
    | none => .bad
  | .min, [x] => match seqOf h x with
    | some ys => match asInts ys with
      | some is => if is.isEmpty then .bad else .ok (.int (minOf is)) h
      | none => .bad
    | none => .bad
  | .toInt, [.int i] => .ok (.int i) h
  | .toInt, [.bl b] => .ok (.int (if b = true then 1 else 0)) h
  | .list, [.tup ys] => .ok (.cell h.length) (h ++ [ys])
  | .list, [x] => match seqOf h x with
    | some ys => .ok (.cell h.length) (h ++ [ys])
    | none => .bad
  | .tuple, [.tup ys] => .ok (.tup ys) h
  | .tuple, [x] => match seqOf h x with
    | some ys => .ok (.tup ys) h
    | none => .bad
  | .sum, [x] => match seqOf h x with
    | some ys => match asInts ys with
      | some is => .ok (.int is.sum) h
      | none => .bad
    | none => .bad
  | .all, [x] => match seqOf h x with
    | some ys => match asBools ys with
      | some bs => .ok (.bl (bs.all id)) h
      | none => .bad
    | none => .bad
  | .repr, [.cell c] => match snap 8 h (.cell c) with
    | some d => if reprOk d then .ok (.str d.shown) h else .bad
    | none => .bad
  | .repr, [.tup c] => match snap 8 h (.tup c) with
    | some d => if reprOk d then .ok (.str d.shown) h else .bad
    | none => .bad
  | .repr, [.lst c] => match snap 8 h (.lst c) with
    | some d => if reprOk d then .ok (.str d.shown) h else .bad
    | none => .bad
  | .repr, [.int i] => if big i then .ok (.str (toString i)) h else .bad
  | _, _ => .bad
/-! ## targets, what is walked -/
mutual
def asgT : Tg → Vl → Ev → Option Ev
  | .nm i, v, ρ => some (ρ.set i (some v))
  | .tup ts, v, ρ => match v with
    | .tup xs => asgTs ts xs ρ
    | .lst xs => asgTs ts xs ρ
    | _ => none
def asgTs : List Tg → List Vl → Ev → Option Ev
  | [], [], ρ => some ρ
  | t :: ts, x :: xs, ρ => match asgT t x ρ with
    | some ρ1 => asgTs ts xs ρ1
    | none => none
  | _, _, _ => none
end
abbrev Watch := List (Nat × List Vl)
def Still (W : Watch) (h : Mm) : Prop := ∀ p ∈ W, h[p.1]? = some p.2
def watch (h : Mm) : Vl → Watch
  | .cell n => match h[n]? with
    | some xs => [(n, xs)]
    | none => []
  | _ => []
def itV (h : Mm) (v : Vl) : Option (List Vl × Watch) := match v with
  | .tup xs => some (xs, [])
  | x => match seqOf h x with
    | some xs => some (xs, watch h x)
    | none => none
def wipeE (ρ : Ev) : List Nat → Ev
  | [] => ρ
  | v :: vs => (wipeE ρ vs).set v none
open Classical in
noncomputable def forV (body : Ev → Mm → RS) (tg : Tg) (W : Watch) : List Vl → Ev → Mm → RS
  | [], ρ, h => if Still W h then .next ρ h else .bad
  | x :: xs, ρ, h => if Still W h then
      match asgT tg x ρ with
      | none => .bad
      | some ρ1 => match body ρ1 h with
        | .next ρ2 h2 => forV body tg W xs ρ2 h2
        | .cont ρ2 h2 => forV body tg W xs ρ2 h2
        | .brk ρ2 h2 => .next ρ2 h2
        | r => r
    else .bad
open Classical in
noncomputable def lcV (cond : Ev → Mm → R Bool) (elt : Ev → Mm → R Vl) (tg : Tg) (W : Watch) (ρ : Ev) : List Vl → List Vl → Mm → R Vl
  | [], acc, h => if Still W h then .ok (.cell h.length) (h ++ [acc]) else .bad
  | x :: xs, acc, h => if Still W h ∧ acc.length < sizeLine then
      match asgT tg x ρ with
      | none => .bad
      | some ρ1 => match cond ρ1 h with
        | .ok true h1 => match elt ρ1 h1 with
          | .ok v h2 => lcV cond elt tg W ρ xs (acc ++ [v]) h2
          | _ => .bad
        | .ok false h1 => lcV cond elt tg W ρ xs acc h1
        | _ => .bad
    else .bad
def setixV (o i v : Vl) (h : Mm) : Option Mm :=
  match o, i with
  | .cell n, .int k => match h[n]? with
    | some xs => match ixN xs.length k with
      | some j => some (h.set n (xs.set j v))
      | none => none
    | none => none
  | _, _ => none
def appV (n : Nat) (v : Vl) (h : Mm) : R Vl :=
  match h[n]? with
  | some xs => if xs.length < sizeLine then .ok .non (h.set n (xs ++ [v])) else .bad
  | none => .bad
def boolOf (h : Mm) (v : Vl) : R Bool := match truth h v with
  | some b => .ok b h
  | none => .bad
def zipV (xs ys : List Vl) : List Vl := (xs.zip ys).map fun p => .tup [p.1, p.2]
def enumV (xs : List Vl) : List Vl := xs.zipIdx.map fun p => .tup [.int (p.2 : Nat), p.1]
def rngC (i c : Int) (n : Nat) : List Vl := (List.range n).map fun k => .int (i + (k : Nat) * c)
def rngV (i : Int) (n : Nat) : List Vl := (List.range n).map fun k => .int (i + (k : Nat))
/-! ## freezing: cells from n on become values -/
def fzL (f : Vl → Option Vl) : List Vl → Option (List Vl)
  | [] => some []
  | x :: xs => match f x, fzL f xs with
    | some y, some ys => some (y :: ys)
    | _, _ => none
mutual
/-- no cell in it -/
def isP : Vl → Bool
  | .cell _ => false
  | .tup xs => isPL xs
  | .lst _ => true
  | .non => true
  | .bl _ => true
  | .int _ => true
  | .str _ => true
  | .frz _ => true
def isPL : List Vl → Bool
  | [] => true
  | x :: xs => isP x && isPL xs
end
def fz (n : Nat) (h : Mm) : Nat → Vl → Option Vl
  | 0, x => if isP x = true then some x else none
  | k + 1, x => if isP x = true then some x else match x with
    | .tup xs => (fzL (fz n h k) xs).map .tup
    | .cell c => if n ≤ c then match h[c]? with
      | some xs => (fzL (fz n h k) xs).map .lst
      | none => none
      else none
    | _ => none
mutual
inductive Pur : Vl → PyData → Prop
  | non : Pur .non .none
  | bl (b : Bool) : Pur (.bl b) (.bool b)
  | int (i : Int) : Pur (.int i) (.int i)
  | str (s : Str) : Pur (.str s) (.str s)
  | frz (ns : List Int) : Pur (.frz ns) (dI ns)
  | tup {xs : List Vl} {ds : List PyData} : PurL xs ds → Pur (.tup xs) (.tuple ds)
  | lst {xs : List Vl} {ds : List PyData} : PurL xs ds → Pur (.lst xs) (.list ds)
inductive PurL : List Vl → List PyData → Prop
  | nil : PurL [] []
  | cons {x : Vl} {d : PyData} {xs : List Vl} {ds : List PyData} : Pur x d → PurL xs ds → PurL (x :: xs) (d :: ds)
end
/-- what stood stands, or is plain -/
def Keep (h h' : Mm) : Prop := h.length ≤ h'.length ∧ ∀ i : Nat, i < h.length → h'[i]? = h[i]? ∨ ∃ xs ds, h'[i]? = some xs ∧ PurL xs ds
open Classical in
noncomputable def frzV (h h' : Mm) (x : Vl) : R Vl := match fz h.length h' 16 x with
  | some y => if Keep h h' then .ok y (h'.take h.length) else .bad
  | none => .bad
/-! ## running it -/
section
variable (C : Str → List Vl → Mm → R Vl)
mutual
noncomputable def ev : E → Ev → Mm → R Vl
  | .int i, _, h => .ok (.int i) h
  | .bl b, _, h => .ok (.bl b) h
  | .non, _, h => .ok .non h
  | .str s, _, h => .ok (.str s) h
  | .loc i, ρ, h => match ρ[i]? with
    | some (some v) => .ok v h
    | _ => .bad
  | .bin o a b, ρ, h => (ev a ρ h).bind fun x h1 => (ev b ρ h1).bind fun y h2 => binV o x y h2
  | .cmp o a b, ρ, h => (ev a ρ h).bind fun x h1 => (ev b ρ h1).bind fun y h2 => cmpV o x y h2
  | .chain o p a b c, ρ, h => (ev a ρ h).bind fun x h1 => (ev b ρ h1).bind fun y h2 => (cmpV o x y h2).bind fun r h3 => match r with
    | .bl true => (ev c ρ h3).bind fun z h4 => cmpV p y z h4
    | .bl false => .ok (.bl false) h3
    | _ => .bad
  | .and a b, ρ, h => (ev a ρ h).bind fun x h1 => match x with
    | .bl true => ev b ρ h1
    | .bl false => .ok (.bl false) h1
    | _ => .bad
  | .or a b, ρ, h => (ev a ρ h).bind fun x h1 => match x with
    | .bl true => .ok (.bl true) h1
    | .bl false => ev b ρ h1
    | _ => .bad
  | .not a, ρ, h => (ev a ρ h).bind fun x h1 => match x with
    | .bl b => .ok (.bl (!b)) h1
    | _ => .bad
  | .neg a, ρ, h => (ev a ρ h).bind fun x h1 => match x with
    | .int i => .ok (.int (-i)) h1
    | _ => .bad
  | .ite c a b, ρ, h => (tv c ρ h).bind fun x h1 => match x with
    | true => ev a ρ h1
    | false => ev b ρ h1
  | .tup es, ρ, h => (evs es ρ h).bind fun xs h1 => if xs.length ≤ sizeLine then .ok (.tup xs) h1 else .bad
  | .lst es, ρ, h => (evs es ρ h).bind fun xs h1 => if xs.length ≤ sizeLine then .ok (.cell h1.length) (h1 ++ [xs]) else .bad
  | .ix a b, ρ, h => (ev a ρ h).bind fun x h1 => (ev b ρ h1).bind fun y h2 => ixV x y h2
  | .slice a lo hi, ρ, h => (ev a ρ h).bind fun x h1 => (evo lo ρ h1).bind fun l h2 => (evo hi ρ h2).bind fun u h3 => sliceV x l u h3
  | .call f es, ρ, h => (evs es ρ h).bind fun xs h1 => C f xs h1
  | .callk f es pm, ρ, h => (evs es ρ h).bind fun xs h1 => C f (pm.map fun i => xs.getD i .non) h1
  | .bi b es, ρ, h => (evs es ρ h).bind fun xs h1 => biV b xs h1
  | .isi e t, ρ, h => (ev e ρ h).bind fun x h1 => .ok (.bl (isiV x t)) h1
  | .app o e, ρ, h => (ev o ρ h).bind fun x h1 => match x with
    | .cell n => (ev e ρ h1).bind fun y h2 => appV n y h2
    | _ => .bad
  | .lc tg it ifs elt vs, ρ, h => (evIt it ρ h).bind fun p h1 => lcV (fun ρ h => tvL ifs ρ h) (fun ρ h => ev elt ρ h) tg p.2 (wipeE ρ vs) p.1 [] h1
  | .rng1 _, _, _ => .bad
  | .rng2 _ _, _, _ => .bad
  | .rng3 _ _ _, _, _ => .bad
  | .zip _ _, _, _ => .bad
  | .enum _, _, _ => .bad
  | .over _, _, _ => .bad
  | .tru _, _, _ => .bad
  | .frz a, ρ, h => (ev a ρ h).bind fun x h1 => frzV h h1 x
  | .fls es, ρ, h => (evs es ρ h).bind fun xs h1 => if isPL xs = true then .ok (.lst xs) h1 else .ok (.cell h1.length) (h1 ++ [xs])
  | .fcall f es, ρ, h => (evs es ρ h).bind fun xs h1 => (C f xs h1).bind fun x h2 => frzV h1 h2 x
  | .fcallk f es pm, ρ, h => (evs es ρ h).bind fun xs h1 => (C f (pm.map fun i => xs.getD i .non) h1).bind fun x h2 => frzV h1 h2 x
  | .stop, _, _ => .bad
noncomputable def tv : E → Ev → Mm → R Bool
  | .and a b, ρ, h => (tv a ρ h).bind fun x h1 => match x with
    | true => tv b ρ h1
    | false => .ok false h1
  | .or a b, ρ, h => (tv a ρ h).bind fun x h1 => match x with
    | true => .ok true h1
    | false => tv b ρ h1
  | .not a, ρ, h => (tv a ρ h).bind fun x h1 => .ok (!x) h1
  | .tru a, ρ, h => (ev a ρ h).bind fun x h1 => boolOf h1 x
  | _, _, _ => .bad
noncomputable def tvL : List E → Ev → Mm → R Bool
  | [], _, h => .ok true h
  | [c], ρ, h => tv c ρ h
  | _ :: _ :: _, _, _ => .bad
noncomputable def evs : List E → Ev → Mm → R (List Vl)
  | [], _, h => .ok [] h
  | e :: es, ρ, h => (ev e ρ h).bind fun x h1 => (evs es ρ h1).bind fun xs h2 => .ok (x :: xs) h2
noncomputable def evo : Option E → Ev → Mm → R (Option Int)
  | none, _, h => .ok none h
  | some e, ρ, h => (ev e ρ h).bind fun x h1 => match x with
    | .int i => .ok (some i) h1
    | _ => .bad
/-- items, and what must stay meanwhile -/
noncomputable def evIt : E → Ev → Mm → R (List Vl × Watch)
  | .rng1 a, ρ, h => (ev a ρ h).bind fun x h1 => match x with
    | .int j => if small j then .ok (rngV 0 j.toNat, []) h1 else .bad
    | _ => .bad
  | .rng2 a b, ρ, h => (ev a ρ h).bind fun x h1 => (ev b ρ h1).bind fun y h2 => match x, y with
    | .int i, .int j => if small i && small j then .ok (rngV i (j - i).toNat, []) h2 else .bad
    | _, _ => .bad
  | .rng3 a b c, ρ, h => (ev a ρ h).bind fun x h1 => (ev b ρ h1).bind fun y h2 => (ev c ρ h2).bind fun z h3 => match x, y, z with
    | .int i, .int j, .int k => if small i && small j && decide (k = -1) then .ok (rngC i (-1) (i - j).toNat, []) h3 else .bad
    | _, _, _ => .bad
  | .zip a b, ρ, h => (ev a ρ h).bind fun x h1 => (ev b ρ h1).bind fun y h2 => match seqOf h2 x, seqOf h2 y with
    | some xs, some ys => .ok (zipV xs ys, watch h2 x ++ watch h2 y) h2
    | _, _ => .bad
  | .enum a, ρ, h => (ev a ρ h).bind fun x h1 => match seqOf h1 x with
    | some xs => .ok (enumV xs, watch h1 x) h1
    | none => .bad
  | .over a, ρ, h => (ev a ρ h).bind fun x h1 => match itV h1 x with
    | some p => .ok p h1
    | none => .bad
  | _, _, _ => .bad
end
mutual
noncomputable def ex : S → Ev → Mm → RS
  | .set i e, ρ, h => (ev C e ρ h).bindS ρ fun x h1 => .next (ρ.set i (some x)) h1
  | .par is es, ρ, h => (evs C es ρ h).bindS ρ fun xs h1 => match asgTs (is.map .nm) xs ρ with
    | some ρ1 => .next ρ1 h1
    | none => .bad
  | .tset tg e, ρ, h => (ev C e ρ h).bindS ρ fun x h1 => match asgT tg x ρ with
    | some ρ1 => .next ρ1 h1
    | none => .bad
  | .setix o i e, ρ, h => (ev C e ρ h).bindS ρ fun v h1 => (ev C o ρ h1).bindS ρ fun x h2 => (ev C i ρ h2).bindS ρ fun y h3 => match setixV x y v h3 with
    | some h4 => .next ρ h4
    | none => .bad
  | .ife c a b, ρ, h => (tv C c ρ h).bindS ρ fun x h1 => match x with
    | true => exs a ρ h1
    | false => exs b ρ h1
  | .forS tg it body, ρ, h => (evIt C it ρ h).bindS ρ fun p h1 => forV (fun ρ h => exs body ρ h) tg p.2 p.1 ρ h1
  | .ret e, ρ, h => (ev C e ρ h).bindS ρ fun x h1 => .ret x h1
  | .retN, _, h => .ret .non h
  | .expr e, ρ, h => (ev C e ρ h).bindS ρ fun _ h1 => .next ρ h1
  | .pass, ρ, h => .next ρ h
  | .brk, ρ, h => .brk ρ h
  | .cont, ρ, h => .cont ρ h
  | .stop, _, _ => .bad
noncomputable def exs : List S → Ev → Mm → RS
  | [], ρ, h => .next ρ h
  | s :: ss, ρ, h => match ex s ρ h with
    | .next ρ1 h1 => exs ss ρ1 h1
    | r => r
end
end
/-- a def: how many slots, parameters, the body -/
structure Fn where
  n : Nat
  ps : Nat
  body : List S
def RS.toR : RS → R Vl
  | .next _ h => .ok .non h
  | .ret v h => .ok v h
  | .brk _ _ => .bad
  | .cont _ _ => .bad
  | .err x _ h => .err x h
  | .bad => .bad
/-- calls to a depth of k -/
noncomputable def call (T : Str → Option Fn) : Nat → Str → List Vl → Mm → R Vl
  | 0, _, _, _ => .bad
  | k + 1, f, xs, h => match T f with
    | some fn => if xs.length = fn.ps ∧ fn.ps ≤ fn.n then (exs (call T k) fn.body (xs.map some ++ List.replicate (fn.n - fn.ps) none) h).toR else .bad
    | none => .bad
end IR

set_option Elab.async false
set_option linter.all false
set_option maxRecDepth 100000
namespace IR
open PySem PySem.Spec PyProof.Rows L2 Dl
/-! ## from the program's text -/
structure Cc where
  N : List Str
  sc : Scope
  vs : List Nat
  blk : Bool
  fns : List (Str × (List Str × List (List Str)))
  cons : List (Str × Int)
  bts : List Str
  fr : Bool := false
  nf : List Str := []
  mu : List Nat := []
  rm : Bool := false
def kindC (c : Cc) (x : Str) : Option NameKind := c.sc.names.lookup x
def isLoc (k : Option NameKind) : Bool := match k with
  | some .local => true
  | some .cell => true
  | _ => false
def isVis (k : Option NameKind) : Bool := match k with
  | some .local => true
  | some .cell => true
  | some .free => true
  | _ => false
def isGl (c : Cc) (x : Str) : Bool := decide (kindC c x = some .globalImplicit) && !(x == ("__debug__" : Str))
def idxOf (x : Str) : List Str → Option Nat
  | [] => none
  | y :: ys => if y = x then some 0 else (idxOf x ys).map (· + 1)
/-- a name that is read -/
def slotR (c : Cc) (x : Str) : Option Nat :=
  if isVis (kindC c x) && !(x == ("__debug__" : Str)) && !(x == ("__classdict__" : Str)) then idxOf x c.N else none
/-- a name that is stored -/
def slotW (c : Cc) (x : Str) : Option Nat :=
  if !(x == ("__debug__" : Str)) && !(x == ("__classdict__" : Str)) then
    if c.blk then
      if decide (kindC c x = some .local) then match idxOf x c.N with
        | some i => if c.vs.contains i then some i else none
        | none => none
      else none
    else if isLoc (kindC c x) then idxOf x c.N else none
  else none
def notStar : Expr → Bool
  | .Starred _ _ => false
  | _ => true
def notComp : Expr → Bool
  | .ListComp _ _ _ _ => false
  | .SetComp _ _ _ _ => false
  | .DictComp _ _ _ _ _ => false
  | _ => true
def notSlice : Expr → Bool
  | .Slice _ _ _ _ => false
  | _ => true
def notSet : Expr → Bool
  | .Set _ _ _ => false
  | _ => true
def notTup : Expr → Bool
  | .Tuple _ _ _ => false
  | _ => true
def isTup : Expr → Bool
  | .Tuple _ _ _ => true
  | _ => false
/-- a plain base of an attribute -/
def plainB : Expr → Bool
  | .Name _ _ => true
  | .Subscript _ _ _ => true
  | _ => false
def opC : Operator → Option Op
  | .Add => some .add | .Sub => some .sub | .Mult => some .mul | .FloorDiv => some .fdiv | .Mod => some .mod | .Pow => some .pow
  | _ => none
def cpC : CmpOp → Option Cp
  | .Lt => some .lt | .LtE => some .le | .Gt => some .gt | .GtE => some .ge | .Eq => some .eq | .NotEq => some .ne | .Is => some .is | .IsNot => some .isNot
  | _ => none
def Bi.nm : Bi → Str
  | .len => "len" | .abs => "abs" | .max => "max" | .min => "min" | .toInt => "int" | .list => "list" | .tuple => "tuple" | .sum => "sum" | .all => "all" | .repr => "repr"
def biC (x : Str) : Option Bi := [Bi.len, .abs, .max, .min, .toInt, .list, .tuple, .sum, .all, .repr].find? fun b => b.nm == x
def Ty.nm : Ty → Str
  | .int => "int" | .bool => "bool" | .str => "str" | .list => "list" | .tuple => "tuple"
def tyC (x : Str) : Option Ty := [Ty.int, .bool, .str, .list, .tuple].find? fun b => b.nm == x
def permC (ks ps : List Str) : List Nat := ps.filterMap fun p => idxOf p ks
def kwNames : List Keyword → Option (List Str)
  | [] => some []
  | ⟨some x, _, _⟩ :: ks => (kwNames ks).map (x :: ·)
  | _ :: _ => none
def useB (c : Cc) (x : Str) : Bool := isGl c x && c.bts.contains x
def ownC (c : Cc) (scope : Scope) : List (Str × Nat) :=
  scope.names.filterMap fun y => if isLoc (some y.2) then (idxOf y.1 c.N).map fun i => (y.1, i) else none
def blkOf (c : Cc) (scope : Scope) : Cc := { c with sc := relS scope c.sc, vs := (ownC c scope).map (·.2), blk := true }
mutual
def cTg (c : Cc) : Expr → Option Tg
  | .Name x _ => (slotW c x).map .nm
  | .Tuple ts _ _ => (cTgs c ts).map .tup
  | _ => none
def cTgs (c : Cc) : List Expr → Option (List Tg)
  | [] => some []
  | t :: ts => match cTg c t, cTgs c ts with
    | some a, some b => some (a :: b)
    | _, _ => none
end
def isLst : Expr → Bool
  | .List _ _ => true
  | _ => false
structure Cr where
  v : E
  t : E
  i : E
  m : E
def dfl (v : E) : Cr := ⟨v, .tru v, .over v, v⟩
def stp : Cr := ⟨.stop, .stop, .stop, .stop⟩
def Cc.fz (c : Cc) (v : E) : E := if c.fr then .frz v else v
def Cc.fl (c : Cc) (es : List E) : E := if c.fr && decide (es.length ≤ 1000) then .fls es else .lst es
def dflZ (c : Cc) (v : E) : Cr := ⟨c.fz v, .tru (c.fz v), .over (c.fz v), v⟩
def Cc.fc (c : Cc) (f : Str) : Bool := c.fr && !(c.nf.contains f)
def dflC (c : Cc) (f : Str) (es : List E) : Cr := if c.fc f then ⟨.fcall f es, .tru (.fcall f es), .over (.fcall f es), .call f es⟩ else dfl (.call f es)
def dflK (c : Cc) (f : Str) (es : List E) (pm : List Nat) : Cr := if c.fc f then ⟨.fcallk f es pm, .tru (.fcallk f es pm), .over (.fcallk f es pm), .callk f es pm⟩ else dfl (.callk f es pm)
def itOk (tup : Bool) : E → Bool
  | .zip _ _ => tup
  | .enum _ => tup
  | _ => true
def nameC (c : Cc) (x : Str) : E := match slotR c x with
    | some i => .loc i
    | none => if isGl c x then match c.cons.lookup x with
      | some v => .int v
      | none => .stop else .stop
def attrC (at' : Str) (o : Expr) (p1 : Pos) (args : List Expr) (kws : List Keyword) (p2 : Pos) (vo : E) (vs : List E) : Cr :=
  match args, kws, vs with
  | [e], [], [v] => if at' == ("append" : Str) && plainB o && notStar e && (p1.endLine == p2.line) then ⟨.app vo v, .stop, .stop, .app vo v⟩ else stp
  | _, _, _ => stp
def isiC (c : Cc) (es : List Expr) (v : E) : Cr :=
  match es with
  | [.Name t _] => match tyC t with
    | some t => if useB c t.nm then dfl (.isi v t) else stp
    | none => stp
  | _ => stp
def bltC (c : Cc) (f : Str) (es : List Expr) (v : E) (vs : List E) : Cr :=
  if f == ("isinstance" : Str) then isiC c es v
  else if f == ("range" : Str) then match vs with
    | [] => ⟨.stop, .stop, .rng1 v, .stop⟩
    | [b] => ⟨.stop, .stop, .rng2 v b, .stop⟩
    | [b, d] => ⟨.stop, .stop, .rng3 v b d, .stop⟩
    | _ => stp
  else if f == ("enumerate" : Str) then match vs with
    | [] => ⟨.stop, .stop, .enum v, .stop⟩
    | _ => stp
  else if f == ("zip" : Str) then match vs with
    | [b] => ⟨.stop, .stop, .zip v b, .stop⟩
    | _ => stp
  else match biC f with
    | some b => (if b = .list then dflZ c (.bi b (v :: vs)) else dfl (.bi b (v :: vs)))
    | none => stp
def callC (c : Cc) (f : Str) (args : List Expr) (kws : List Keyword) (vs ks : List E) : Cr :=
  if isGl c f then
    match args, kws, vs with
    | _ :: es, [], v :: vs => if args.all notStar then match c.fns.lookup f with
        | some _ => dflC c f (v :: vs)
        | none => if c.bts.contains f then bltC c f es v vs else stp
      else stp
    | [], _ :: _, _ => match c.fns.lookup f, kwNames kws with
      | some (ps, ords), some ns => if ords.contains ns then dflK c f ks (permC ns ps) else stp
      | _, _ => stp
    | _, _, _ => stp
  else stp
def lcC (c : Cc) (scope : Scope) (tg it : Expr) (ifs : List Expr) (vi : E) (vt : List E) (ve : E) : Cr :=
  match cTg (blkOf c scope) tg with
  | some t => if blkC c.N c.sc scope (ownC c scope) && !(ownC c scope).isEmpty && notSet it && decide (ifs.length ≤ 1) && itOk (isTup tg) vi then
      ⟨c.fz (.lc t vi vt ve ((ownC c scope).map (·.2))), .stop, .over (c.fz (.lc t vi vt ve ((ownC c scope).map (·.2)))), .lc t vi vt ve ((ownC c scope).map (·.2))⟩ else stp
  | none => stp
mutual
def cE (c : Cc) : Expr → Cr
  | .Constant (.int i) _ _ => dfl (.int i)
  | .Constant (.bool b) _ _ => dfl (.bl b)
  | .Constant .none _ _ => dfl .non
  | .Constant (.str s) _ _ => dfl (.str s)
  | .Name x _ => dfl (nameC c x)
  | .BinOp a o b _ => match opC o with
    | some o => if isLst a then dflZ c (.bin o (cE c a).m (cE c b).v) else ⟨.bin o (cE c a).v (cE c b).v, .tru (.bin o (cE c a).v (cE c b).v), .over (.bin o (cE c a).v (cE c b).v), .bin o (cE c a).m (cE c b).v⟩
    | none => stp
  | .UnaryOp .Not a _ => ⟨.not (cE c a).v, .not (cE c a).t, .stop, .not (cE c a).v⟩
  | .UnaryOp .USub a _ => dfl (.neg (cE c a).v)
  | .Compare a [o] [b] _ => match cpC o with
    | some o => if notSet b then dfl (.cmp o (cE c a).v (cE c b).v) else stp
    | none => stp
  | .Compare a [o, p] [b, d] _ => match cpC o, cpC p with
    | some o, some p => if notSet d then dfl (.chain o p (cE c a).v (cE c b).v (cE c d).v) else stp
    | _, _ => stp
  | .BoolOp .And es _ => ⟨cAnd c es, cAndT c es, .stop, cAnd c es⟩
  | .BoolOp .Or es _ => ⟨cOr c es, cOrT c es, .stop, cOr c es⟩
  | .IfExp t a b _ => ⟨.ite (cE c t).t (cE c a).v (cE c b).v, .stop, .over (.ite (cE c t).t (cE c a).v (cE c b).v), .ite (cE c t).t (cE c a).v (cE c b).v⟩
  | .Tuple es _ _ => if es.all notStar then ⟨.tup (cEs c es), .stop, .over (.tup (cEs c es)), .tup (cMs c es)⟩ else stp
  | .List es _ => if es.all notStar then ⟨c.fl (cEs c es), .stop, .over (c.fl (cEs c es)), .lst (cEs c es)⟩ else stp
  | .Subscript a (.Slice lo hi none _) _ => dflZ c (.slice (cE c a).v (cO c lo) (cO c hi))
  | .Subscript a b _ => if notSlice b && notTup b then dfl (.ix (cE c a).v (cE c b).v) else stp
  | .Call (.Attribute o at' p1) args kws p2 => attrC at' o p1 args kws p2 (cE c o).v (cEs c args)
  | .Call (.Name f _) args kws _ => callC c f args kws (cEs c args) (cKs c kws)
  | .ListComp elt [⟨tg, it, ifs, 0⟩] scope _ => lcC c scope tg it ifs (cE c it).i (cTs (blkOf c scope) ifs) (cE (blkOf c scope) elt).v
  | _ => stp
def cEs (c : Cc) : List Expr → List E
  | [] => []
  | e :: es => (cE c e).v :: cEs c es
def cMs (c : Cc) : List Expr → List E
  | [] => []
  | e :: es => (cE c e).m :: cMs c es
def cTs (c : Cc) : List Expr → List E
  | [] => []
  | e :: es => (cE c e).t :: cTs c es
def cAnd (c : Cc) : List Expr → E
  | [] => .stop
  | [a] => (cE c a).v
  | a :: b :: es => .and (cE c a).v (cAnd c (b :: es))
def cOr (c : Cc) : List Expr → E
  | [] => .stop
  | [a] => (cE c a).v
  | a :: b :: es => .or (cE c a).v (cOr c (b :: es))
def cAndT (c : Cc) : List Expr → E
  | [] => .stop
  | [a] => (cE c a).t
  | a :: b :: es => .and (cE c a).t (cAndT c (b :: es))
def cOrT (c : Cc) : List Expr → E
  | [] => .stop
  | [a] => (cE c a).t
  | a :: b :: es => .or (cE c a).t (cOrT c (b :: es))
def cO (c : Cc) : Option Expr → Option E
  | none => none
  | some e => some (cE c e).v
def cKs (c : Cc) : List Keyword → List E
  | [] => []
  | ⟨_, e, _⟩ :: ks => (cE c e).v :: cKs c ks
end
/-- stores that are exchanged, as Python does -/
def lineOf (e : Expr) : Nat := e.pos.line
def swapF (c : Cc) (l : Nat) : Expr → Option Str
  | .Name id pos => if c.sc.names.lookup id == some .local && pos.line == l then some id else none
  | _ => none
def swapNs (c : Cc) (ts : List Expr) : List Str := ts.filterMap (swapF c ((ts.head?.map (·.pos.line)).getD 0))
def swapOk (c : Cc) (ts vs : List Expr) : Bool :=
  (ts.length == 2 || ts.length == 3) && vs.length == ts.length && decide (c.sc.kind = .function) && vs.all notStar && (swapNs c ts).length == ts.length && (swapNs c ts).eraseDups.length == (swapNs c ts).length &&
    !(vs.all (foldedForSure 8)) && !(vs.all (constantsAlone 8))
def swapNo (ts vs : List Expr) : Bool := !(ts.length == 2 || ts.length == 3) || vs.all (foldedForSure 8)
def nameE : Expr → Bool
  | .Name _ _ => true
  | _ => false
def nmOf : Tg → Option Nat
  | .nm i => some i
  | _ => none
def lcOk (c : Cc) (n : Str) (py : Pos) : Expr → Bool
  | .ListComp elt [⟨tg, it, ifs, 0⟩] scope pos => decide (c.sc.kind = .function) && decide (c.sc.names.lookup n = some .local) && (py.line == pos.line) && !(scope.names.any fun (m, k) => m == n && (k == .local || k == .cell))
  | _ => false
def mV (c : Cc) (i : Nat) (r : Cr) : E := if c.mu.contains i then r.m else r.v
def mVs (c : Cc) : List Nat → List Expr → List E
  | i :: is, e :: es => mV c i (cE c e) :: mVs c is es
  | _, _ => []
def rV (c : Cc) (r : Cr) : E := if c.rm then r.m else r.v
mutual
def cS (c : Cc) : Stmt → S
  | .Assign [.Name x py] e p => match slotW c x with
    | some i => if notComp e then .set i (mV c i (cE c e)) else if lcOk c x py e then .set i (mV c i (cE c e)) else .stop
    | none => .stop
  | .Assign [.Tuple ts k1 p1] (.Tuple vs k2 p2) p => match cTgs c ts with
    | some tgs => if swapNo ts vs || !((swapNs c ts).length == ts.length) then (if vs.all notStar then .tset (.tup tgs) (.tup (if ts.all nameE && decide (vs.length = (tgs.filterMap nmOf).length) then mVs c (tgs.filterMap nmOf) vs else cEs c vs)) else .stop)
      else if swapOk c ts vs && ts.all nameE then .par (tgs.filterMap nmOf) (mVs c (tgs.filterMap nmOf) vs)
      else .stop
    | none => .stop
  | .Assign [.Tuple ts k1 p1] e p => if notTup e && notComp e then match cTgs c ts with
      | some tgs => .tset (.tup tgs) (cE c e).v
      | none => .stop
    else .stop
  | .Assign [.Subscript o i p1] e p => if notComp e && notSlice i && notTup i then .setix (cE c o).v (cE c i).v (cE c e).v else .stop
  | .If t a b _ => .ife (cE c t).t (cSs c a) (cSs c b)
  | .For tg it body [] _ => match cTg c tg with
    | some t => if notSet it && itOk (isTup tg) (cE c it).i then .forS t (cE c it).i (cSs c body) else .stop
    | none => .stop
  | .Return (some e) _ => .ret (rV c (cE c e))
  | .Return none _ => .retN
  | .Expr e _ => if notComp e then .expr (cE c e).v else .stop
  | .Pass _ => .pass
  | .Break _ => .brk
  | .Continue _ => .cont
  | _ => .stop
def cSs (c : Cc) : List Stmt → List S
  | [] => []
  | s :: ss => cS c s :: cSs c ss
end
end IR

set_option Elab.async false
set_option linter.all false
set_option maxRecDepth 100000
set_option maxHeartbeats 2000000
namespace IR
open PySem PySem.Spec PyProof.Rows L2 Dl
mutual
theorem Pur.inj : ∀ {x : Vl} {d d' : PyData}, Pur x d → Pur x d' → d = d'
  | _, _, _, .non, .non => rfl
  | _, _, _, .bl b, .bl _ => rfl
  | _, _, _, .int b, .int _ => rfl
  | _, _, _, .str b, .str _ => rfl
  | _, _, _, .frz b, .frz _ => rfl
  | _, _, _, .tup a, .tup b => by rw [PurL.inj a b]
  | _, _, _, .lst a, .lst b => by rw [PurL.inj a b]
theorem PurL.inj : ∀ {x : List Vl} {d d' : List PyData}, PurL x d → PurL x d' → d = d'
  | _, _, _, .nil, .nil => rfl
  | _, _, _, .cons a b, .cons c d => by rw [Pur.inj a c, PurL.inj b d]
end
theorem PurL.len : ∀ {x : List Vl} {d : List PyData}, PurL x d → x.length = d.length
  | _, _, .nil => rfl
  | _, _, .cons _ b => by rw [List.length_cons, List.length_cons, PurL.len b]
theorem PurL.app : ∀ {x y : List Vl} {d e : List PyData}, PurL x d → PurL y e → PurL (x ++ y) (d ++ e)
  | _, _, _, _, .nil, h => h
  | _, _, _, _, .cons a b, h => .cons a (PurL.app b h)
theorem PurL.get : ∀ {x : List Vl} {d : List PyData} (i : Nat) {v : Vl}, PurL x d → x[i]? = some v → ∃ q, d[i]? = some q ∧ Pur v q
  | _, _, i, _, .nil, h => by simp at h
  | _, _, 0, _, .cons a _, h => by simp at h; subst h; exact ⟨_, rfl, a⟩
  | _, _, i + 1, _, .cons _ b, h => by
    obtain ⟨q, h1, h2⟩ := PurL.get i b (by simpa using h)
    exact ⟨q, by simpa using h1, h2⟩
theorem PurL.drop : ∀ {x : List Vl} {r : List PyData} (i : Nat), PurL x r → PurL (x.drop i) (r.drop i)
  | _, _, _, .nil => by simp; exact .nil
  | _, _, 0, .cons a b => .cons a b
  | _, _, i + 1, .cons _ b => PurL.drop i b
theorem PurL.take : ∀ {x : List Vl} {r : List PyData} (i : Nat), PurL x r → PurL (x.take i) (r.take i)
  | _, _, _, .nil => by simp; exact .nil
  | _, _, 0, .cons a b => .nil
  | _, _, i + 1, .cons a b => .cons a (PurL.take i b)
theorem PurL.cut {x : List Vl} {r : List PyData} (h : PurL x r) (l u : Option Int) : PurL (Dl.cutD x l u) (Dl.cutD r l u) := by
  unfold Dl.cutD; rw [h.len]; exact PurL.take _ (PurL.drop _ h)
theorem PurL.rep {xs : List Vl} {ds : List PyData} (a : PurL xs ds) : ∀ n, PurL (repL xs n) (List.replicate n ds).flatten
  | 0 => .nil
  | n + 1 => by unfold repL; rw [List.replicate_succ, List.replicate_succ, List.flatten_cons, List.flatten_cons]; exact PurL.app a (PurL.rep a n)
theorem PurL.ints : ∀ (ns : List Int), PurL (ns.map .int) (ns.map .int)
  | [] => .nil
  | n :: ns => .cons (.int n) (PurL.ints ns)
/-! ## values and what the slots hold -/
mutual
inductive Rel (as : List Addr) : Vl → Rv → Prop
  | non : Rel as .non (.d .none)
  | bl (b : Bool) : Rel as (.bl b) (.d (.bool b))
  | int (i : Int) : Rel as (.int i) (.d (.int i))
  | str (s : Str) : Rel as (.str s) (.d (.str s))
  | frz (ns : List Int) : Rel as (.frz ns) (.d (dI ns))
  | cell {n : Nat} {a : Addr} : as[n]? = some a → Rel as (.cell n) (.cell a)
  | tup {xs : List Vl} {rs : List Rv} : RelL as xs rs → Rel as (.tup xs) (.tup rs)
  | lst {xs : List Vl} {ds : List PyData} : PurL xs ds → Rel as (.lst xs) (.d (.list ds))
inductive RelL (as : List Addr) : List Vl → List Rv → Prop
  | nil : RelL as [] []
  | cons {x : Vl} {r : Rv} {xs : List Vl} {rs : List Rv} : Rel as x r → RelL as xs rs → RelL as (x :: xs) (r :: rs)
end
inductive RelLL (as : List Addr) : List (List Vl) → List (List Rv) → Prop
  | nil : RelLL as [] []
  | cons {x : List Vl} {r : List Rv} {xs : List (List Vl)} {rs : List (List Rv)} : RelL as x r → RelLL as xs rs → RelLL as (x :: xs) (r :: rs)
theorem pre_get {α : Type} {as as' : List α} (h : as <+: as') {n : Nat} {a : α} (e : as[n]? = some a) : as'[n]? = some a := by
  obtain ⟨t, rfl⟩ := h
  have hl := (List.getElem?_eq_some_iff.mp e).1
  rw [List.getElem?_append_left hl]; exact e
mutual
theorem Rel.mono {as as' : List Addr} (h : as <+: as') : ∀ {x : Vl} {r : Rv}, Rel as x r → Rel as' x r
  | _, _, .non => .non
  | _, _, .bl b => .bl b
  | _, _, .int b => .int b
  | _, _, .str b => .str b
  | _, _, .frz b => .frz b
  | _, _, .cell e => .cell (pre_get h e)
  | _, _, .tup a => .tup (RelL.mono h a)
  | _, _, .lst a => .lst a
theorem RelL.mono {as as' : List Addr} (h : as <+: as') : ∀ {x : List Vl} {r : List Rv}, RelL as x r → RelL as' x r
  | _, _, .nil => .nil
  | _, _, .cons a b => .cons (Rel.mono h a) (RelL.mono h b)
end
theorem RelLL.mono {as as' : List Addr} (h : as <+: as') : ∀ {x : List (List Vl)} {r : List (List Rv)}, RelLL as x r → RelLL as' x r
  | _, _, .nil => .nil
  | _, _, .cons a b => .cons (RelL.mono h a) (RelLL.mono h b)
mutual
theorem Rel.inj {as : List Addr} : ∀ {x : Vl} {r r' : Rv}, Rel as x r → Rel as x r' → r = r'
  | _, _, _, .non, .non => rfl
  | _, _, _, .bl b, .bl _ => rfl
  | _, _, _, .int b, .int _ => rfl
  | _, _, _, .str b, .str _ => rfl
  | _, _, _, .frz b, .frz _ => rfl
  | _, _, _, .cell e, .cell e' => by rw [e] at e'; cases e'; rfl
  | _, _, _, .tup a, .tup b => by rw [RelL.inj a b]
  | _, _, _, .lst a, .lst b => by rw [PurL.inj a b]
theorem RelL.inj {as : List Addr} : ∀ {x : List Vl} {r r' : List Rv}, RelL as x r → RelL as x r' → r = r'
  | _, _, _, .nil, .nil => rfl
  | _, _, _, .cons a b, .cons c d => by rw [Rel.inj a c, RelL.inj b d]
end
/-- what plain values may be seen as -/
def UpL (ds : List PyData) (rs : List Rv) : Prop := ∀ (K : Frg) (B : Hp) (vs : List V), DpAll K B vs ds → RvAll K B vs rs
mutual
theorem Pur.up (as : List Addr) : ∀ {x : Vl} {d : PyData}, Pur x d → ∃ r, Rel as x r ∧ ∀ (K : Frg) (B : Hp) (v : V), Dp K B v d → RvOk K B v r
  | _, _, .non => ⟨_, .non, fun _ _ _ q => .d q⟩
  | _, _, .bl b => ⟨_, .bl b, fun _ _ _ q => .d q⟩
  | _, _, .int b => ⟨_, .int b, fun _ _ _ q => .d q⟩
  | _, _, .str b => ⟨_, .str b, fun _ _ _ q => .d q⟩
  | _, _, .frz b => ⟨_, .frz b, fun _ _ _ q => .d q⟩
  | _, _, .lst a => ⟨_, .lst a, fun _ _ _ q => .d q⟩
  | _, _, .tup a => by
    obtain ⟨rs, h1, h2⟩ := PurL.up as a
    exact ⟨_, .tup h1, fun K B v q => by cases q with | tup h a => exact .tup h (h2 K B _ a)⟩
theorem PurL.up (as : List Addr) : ∀ {x : List Vl} {d : List PyData}, PurL x d → ∃ r, RelL as x r ∧ UpL d r
  | _, _, .nil => ⟨_, .nil, fun _ _ _ q => by cases q; exact .nil⟩
  | _, _, .cons a b => by
    obtain ⟨r, h1, h2⟩ := Pur.up as a
    obtain ⟨rs, h3, h4⟩ := PurL.up as b
    exact ⟨_, .cons h1 h3, fun K B vs q => by cases q with | cons a b => exact .cons (h2 K B _ a) (h4 K B _ b)⟩
end
mutual
theorem Rel.pure {as as' : List Addr} : ∀ {x : Vl} {d : PyData} {r : Rv}, Pur x d → Rel as x r → Rel as' x r
  | _, _, _, .non, .non => .non
  | _, _, _, .bl b, .bl _ => .bl b
  | _, _, _, .int b, .int _ => .int b
  | _, _, _, .str b, .str _ => .str b
  | _, _, _, .frz b, .frz _ => .frz b
  | _, _, _, .lst a, .lst b => .lst b
  | _, _, _, .tup a, .tup b => .tup (RelL.pure a b)
theorem RelL.pure {as as' : List Addr} : ∀ {x : List Vl} {d : List PyData} {r : List Rv}, PurL x d → RelL as x r → RelL as' x r
  | _, _, _, .nil, .nil => .nil
  | _, _, _, .cons a b, .cons c d => .cons (Rel.pure a c) (RelL.pure b d)
end
theorem RelL.len {as : List Addr} : ∀ {x : List Vl} {r : List Rv}, RelL as x r → x.length = r.length
  | _, _, .nil => rfl
  | _, _, .cons _ b => by rw [List.length_cons, List.length_cons, RelL.len b]
theorem RelL.app {as : List Addr} : ∀ {x y : List Vl} {r q : List Rv}, RelL as x r → RelL as y q → RelL as (x ++ y) (r ++ q)
  | _, _, _, _, .nil, h => h
  | _, _, _, _, .cons a b, h => .cons a (RelL.app b h)
theorem RelL.get {as : List Addr} : ∀ {x : List Vl} {r : List Rv} (i : Nat) {v : Vl}, RelL as x r → x[i]? = some v → ∃ q, r[i]? = some q ∧ Rel as v q
  | _, _, i, _, .nil, h => by simp at h
  | _, _, 0, _, .cons a _, h => by simp at h; subst h; exact ⟨_, rfl, a⟩
  | _, _, i + 1, _, .cons _ b, h => by
    obtain ⟨q, h1, h2⟩ := RelL.get i b (by simpa using h)
    exact ⟨q, by simpa using h1, h2⟩
theorem RelL.set {as : List Addr} {v : Vl} {q : Rv} (hv : Rel as v q) : ∀ {x : List Vl} {r : List Rv} (i : Nat), RelL as x r → RelL as (x.set i v) (r.set i q)
  | _, _, _, .nil => .nil
  | _, _, 0, .cons _ b => .cons hv b
  | _, _, i + 1, .cons a b => .cons a (RelL.set hv i b)
theorem RelL.drop {as : List Addr} : ∀ {x : List Vl} {r : List Rv} (i : Nat), RelL as x r → RelL as (x.drop i) (r.drop i)
  | _, _, _, .nil => by simp; exact .nil
  | _, _, 0, .cons a b => .cons a b
  | _, _, i + 1, .cons _ b => RelL.drop i b
theorem RelL.take {as : List Addr} : ∀ {x : List Vl} {r : List Rv} (i : Nat), RelL as x r → RelL as (x.take i) (r.take i)
  | _, _, _, .nil => by simp; exact .nil
  | _, _, 0, .cons a b => .nil
  | _, _, i + 1, .cons a b => .cons a (RelL.take i b)
theorem RelL.cut {as : List Addr} {x : List Vl} {r : List Rv} (h : RelL as x r) (l u : Option Int) : RelL as (Dl.cutD x l u) (Dl.cutD r l u) := by
  unfold Dl.cutD; rw [h.len]; exact RelL.take _ (RelL.drop _ h)
theorem RelL.ints {as : List Addr} : ∀ (ns : List Int), RelL as (ns.map .int) (ns.map fun i => .d (.int i))
  | [] => .nil
  | n :: ns => .cons (.int n) (RelL.ints ns)
theorem RelLL.len {as : List Addr} : ∀ {x : List (List Vl)} {r : List (List Rv)}, RelLL as x r → x.length = r.length
  | _, _, .nil => rfl
  | _, _, .cons _ b => by rw [List.length_cons, List.length_cons, RelLL.len b]
theorem RelLL.app {as : List Addr} : ∀ {x y : List (List Vl)} {r q : List (List Rv)}, RelLL as x r → RelLL as y q → RelLL as (x ++ y) (r ++ q)
  | _, _, _, _, .nil, h => h
  | _, _, _, _, .cons a b, h => .cons a (RelLL.app b h)
theorem RelLL.get {as : List Addr} : ∀ {x : List (List Vl)} {r : List (List Rv)} (i : Nat) {v : List Vl}, RelLL as x r → x[i]? = some v → ∃ q, r[i]? = some q ∧ RelL as v q
  | _, _, i, _, .nil, h => by simp at h
  | _, _, 0, _, .cons a _, h => by simp at h; subst h; exact ⟨_, rfl, a⟩
  | _, _, i + 1, _, .cons _ b, h => by
    obtain ⟨q, h1, h2⟩ := RelLL.get i b (by simpa using h)
    exact ⟨q, by simpa using h1, h2⟩
theorem RelLL.set {as : List Addr} {v : List Vl} {q : List Rv} (hv : RelL as v q) : ∀ {x : List (List Vl)} {r : List (List Rv)} (i : Nat), RelLL as x r → RelLL as (x.set i v) (r.set i q)
  | _, _, _, .nil => .nil
  | _, _, 0, .cons _ b => .cons hv b
  | _, _, i + 1, .cons a b => .cons a (RelLL.set hv i b)
/-! ## the memory -/
def memOf : List Addr → List (List Rv) → Mem
  | a :: as, r :: rs => memOf as rs ++ [(a, Is r)]
  | _, _ => []
def MOk (as : List Addr) (h : Mm) (M : Mem) : Prop := ∃ rows, RelLL as h rows ∧ as.length = rows.length ∧ M = memOf as rows
theorem memOf_snoc : ∀ {as : List Addr} {rows : List (List Rv)} {p : Addr} {r : List Rv}, as.length = rows.length → memOf (as ++ [p]) (rows ++ [r]) = (p, Is r) :: memOf as rows
  | [], [], _, _, _ => rfl
  | a :: as, r :: rows, p, q, h => by
    show memOf (as ++ [p]) (rows ++ [q]) ++ [(a, Is r)] = (p, Is q) :: (memOf as rows ++ [(a, Is r)])
    rw [memOf_snoc (by simpa using h)]; rfl
theorem MOk.new {as : List Addr} {h : Mm} {M : Mem} {p : Addr} {xs : List Vl} {rs : List Rv} (m : MOk as h M) (r : RelL as xs rs) : MOk (as ++ [p]) (h ++ [xs]) ((p, Is rs) :: M) := by
  obtain ⟨rows, h1, h2, h3⟩ := m
  have pre : as <+: as ++ [p] := List.prefix_append _ _
  refine ⟨rows ++ [rs], (h1.mono pre).app (.cons (r.mono pre) .nil), by simp [h2], ?_⟩
  rw [memOf_snoc h2, h3]
theorem MOk.len {as : List Addr} {h : Mm} {M : Mem} (m : MOk as h M) : as.length = h.length := by
  obtain ⟨rows, h1, h2, h3⟩ := m
  rw [h1.len, h2]
theorem cell_app {c : Addr} {P P' : List Rv → Prop} {N : Mem} : ∀ {M M' : Mem}, Cell c P P' M M' → Cell c P P' (M ++ N) (M' ++ N)
  | _, _, .h => .h
  | _, _, .t x => .t (cell_app x)
theorem has_app {c : Addr} {P : List Rv → Prop} {N : Mem} : ∀ {M : Mem}, Has c P M → Has c P (M ++ N)
  | _, .h => .h
  | _, .t x => .t (has_app x)
theorem has_end {c : Addr} {P : List Rv → Prop} : ∀ (M : Mem), Has c P (M ++ [(c, P)])
  | [] => .h
  | _ :: M => .t (has_end M)
theorem cell_end {c : Addr} {P P' : List Rv → Prop} : ∀ (M : Mem), Cell c P P' (M ++ [(c, P)]) (M ++ [(c, P')])
  | [] => .h
  | _ :: M => .t (cell_end M)
theorem memOf_has : ∀ {as : List Addr} {rows : List (List Rv)} {n : Nat} {a : Addr} {r : List Rv}, as[n]? = some a → rows[n]? = some r → Has a (Is r) (memOf as rows)
  | [], _, _, _, _, h, _ => by simp at h
  | _ :: _, [], _, _, _, _, h => by simp at h
  | a :: as, r :: rows, 0, _, _, h1, h2 => by simp at h1 h2; subst h1 h2; exact has_end _
  | a :: as, r :: rows, n + 1, _, _, h1, h2 => has_app (memOf_has (n := n) (by simpa using h1) (by simpa using h2))
theorem memOf_set {q : List Rv} : ∀ {as : List Addr} {rows : List (List Rv)} {n : Nat} {a : Addr} {r : List Rv}, as[n]? = some a → rows[n]? = some r → Cell a (Is r) (Is q) (memOf as rows) (memOf as (rows.set n q))
  | [], _, _, _, _, h, _ => by simp at h
  | _ :: _, [], _, _, _, _, h => by simp at h
  | a :: as, r :: rows, 0, _, _, h1, h2 => by simp at h1 h2; subst h1 h2; exact cell_end _
  | a :: as, r :: rows, n + 1, _, _, h1, h2 => cell_app (memOf_set (n := n) (by simpa using h1) (by simpa using h2))
theorem MOk.get {as : List Addr} {h : Mm} {M : Mem} {n : Nat} {a : Addr} {xs : List Vl} (m : MOk as h M) (e : as[n]? = some a) (x : h[n]? = some xs) : ∃ rs, RelL as xs rs ∧ Has a (Is rs) M := by
  obtain ⟨rows, h1, h2, h3⟩ := m
  obtain ⟨rs, e1, r⟩ := h1.get n x
  exact ⟨rs, r, by rw [h3]; exact memOf_has e e1⟩
theorem MOk.set {as : List Addr} {h : Mm} {M : Mem} {n : Nat} {a : Addr} {xs ys : List Vl} {rs qs : List Rv} (m : MOk as h M) (e : as[n]? = some a) (x : h[n]? = some xs) (rx : RelL as xs rs) (ry : RelL as ys qs) :
    ∃ M', Cell a (Is rs) (Is qs) M M' ∧ MOk as (h.set n ys) M' := by
  obtain ⟨rows, h1, h2, h3⟩ := m
  obtain ⟨rs', e1, r⟩ := h1.get n x
  cases r.inj rx
  refine ⟨memOf as (rows.set n qs), by rw [h3]; exact memOf_set e e1, rows.set n qs, h1.set ry n, by simp [h2], rfl⟩
/-! ## slots -/
inductive SRel (as : List Addr) : Option Vl → Rv → Prop
  | none : SRel as none .any
  | some {v : Vl} {r : Rv} : Rel as v r → SRel as (some v) r
inductive ERel (as : List Addr) : Ev → List Rv → Prop
  | nil : ERel as [] []
  | cons {o : Option Vl} {r : Rv} {ρ : Ev} {rs : List Rv} : SRel as o r → ERel as ρ rs → ERel as (o :: ρ) (r :: rs)
theorem SRel.mono {as as' : List Addr} (h : as <+: as') {x : Option Vl} {r : Rv} : SRel as x r → SRel as' x r
  | .none => .none
  | .some a => .some (a.mono h)
theorem ERel.mono {as as' : List Addr} (h : as <+: as') : ∀ {x : Ev} {r : List Rv}, ERel as x r → ERel as' x r
  | _, _, .nil => .nil
  | _, _, .cons a b => .cons (a.mono h) (ERel.mono h b)
theorem ERel.get {as : List Addr} : ∀ {ρ : Ev} {rs : List Rv} (i : Nat) {v : Vl}, ERel as ρ rs → ρ[i]? = some (some v) → ∃ q, rs[i]? = some q ∧ Rel as v q
  | _, _, i, _, .nil, h => by simp at h
  | _, _, 0, _, .cons a _, h => by simp at h; subst h; cases a with | some a => exact ⟨_, rfl, a⟩
  | _, _, i + 1, _, .cons _ b, h => by
    obtain ⟨q, h1, h2⟩ := ERel.get i b (by simpa using h)
    exact ⟨q, by simpa using h1, h2⟩
theorem ERel.set {as : List Addr} {o : Option Vl} {r : Rv} (s : SRel as o r) : ∀ {ρ : Ev} {rs : List Rv} (i : Nat), ERel as ρ rs → ERel as (ρ.set i o) (rs.set i r)
  | _, _, _, .nil => .nil
  | _, _, 0, .cons _ b => .cons s b
  | _, _, i + 1, .cons a b => .cons a (ERel.set s i b)
theorem ERel.wipe {as : List Addr} {ρ : Ev} {rs : List Rv} (h : ERel as ρ rs) : ∀ vs : List Nat, ERel as (wipeE ρ vs) (wipeR rs vs)
  | [] => h
  | v :: vs => ERel.set .none v (ERel.wipe h vs)
theorem ERel.start {as : List Addr} : ∀ {xs : List Vl} {rs : List Rv}, RelL as xs rs → ∀ n, ERel as (xs.map some ++ List.replicate n none) (rs ++ List.replicate n .any)
  | _, _, .cons a b, n => .cons (.some a) (ERel.start b n)
  | _, _, .nil, n => by
    induction n with
    | zero => exact .nil
    | succ n ih => exact .cons .none ih
theorem Rel.notAny {as : List Addr} {v : Vl} {r : Rv} (h : Rel as v r) : r.isAny = false := by cases h <;> rfl
/-! ## what is wished of a result -/
def XRel (mg : Str → Option Value) (x : Exn) (e : EV) : Prop := mg x.cls = some e.cls ∧ e.fs = x.fs
abbrev Mg := Str → Option Value
def PV {α : Type} (mg : Mg) (as : List Addr) (r : R α) (Q : List Addr → α → Mm → Prop) (Ξ : EV → Mem → Prop) : Prop :=
  match r with
  | .ok a h' => ∀ as', as <+: as' → Q as' a h'
  | .err x h' => ∀ as' e M', as <+: as' → XRel mg x e → MOk as' h' M' → Ξ e M'
  | .bad => False
def QV (Φ : Pst) : List Addr → Vl → Mm → Prop := fun as' v h' => ∀ r M', Rel as' v r → MOk as' h' M' → Φ r M'
abbrev Post (mg : Mg) (as : List Addr) (r : R Vl) (Φ : Pst) (Ξ : EV → Mem → Prop) : Prop := PV mg as r (QV Φ) Ξ
theorem PV.mono {α : Type} {mg : Mg} {as as' : List Addr} {r : R α} {Q : List Addr → α → Mm → Prop} {Ξ : EV → Mem → Prop} (h : as <+: as') (p : PV mg as r Q Ξ) : PV mg as' r Q Ξ := by
  cases r with
  | ok a h' => exact fun as'' k => p as'' (h.trans k)
  | err x h' => exact fun as'' e M' k => p as'' e M' (h.trans k)
  | bad => exact p
theorem pv_bind {α β : Type} {mg : Mg} {as : List Addr} {r : R α} {f : α → Mm → R β} {Q : List Addr → β → Mm → Prop} {Ξ : EV → Mem → Prop} (p : PV mg as (r.bind f) Q Ξ) : PV mg as r (fun as' a h' => PV mg as' (f a h') Q Ξ) Ξ := by
  cases r with
  | ok a h' => exact fun as' k => p.mono k
  | err x h' => exact p
  | bad => exact p
theorem PV.imp {α : Type} {mg : Mg} {as : List Addr} {r : R α} {Q Q' : List Addr → α → Mm → Prop} {Ξ : EV → Mem → Prop} (p : PV mg as r Q Ξ) (k : ∀ as' a h', as <+: as' → Q as' a h' → Q' as' a h') : PV mg as r Q' Ξ := by
  cases r with
  | ok a h' => exact fun as' e => k _ _ _ e (p as' e)
  | err x h' => exact p
  | bad => exact p
def QL (Ψ : List Rv → Mem → Prop) : List Addr → List Vl → Mm → Prop := fun as' v h' => ∀ r M', RelL as' v r → MOk as' h' M' → Ψ r M'
def QT (Ψ : Bool → Mem → Prop) : List Addr → Bool → Mm → Prop := fun as' b h' => ∀ M', MOk as' h' M' → Ψ b M'
/-- what a def promises: its run here -/
def pdI (mg : Mg) (C : Str → List Vl → Mm → R Vl) (f : Str) (n : Nat) : Prom := fun rs M Φ Ξ => rs.length = n ∧ ∃ as vs h, RelL as vs rs ∧ MOk as h M ∧ Post mg as (C f vs h) Φ Ξ
end IR

set_option Elab.async false
set_option linter.all false
set_option maxRecDepth 100000
set_option maxHeartbeats 2000000
namespace IR
open PySem PySem.Spec PyProof.Rows L2 Dl
section
variable {X : Cx} {mg : Mg} {as : List Addr} {h : Mm} {M : Mem} {Φ : Pst} {ξ : EV → Mem → Prop}
theorem post_new {xs : List Vl} {rs : List Rv} (p : Post mg as (.ok (.cell h.length) (h ++ [xs])) Φ ξ) (m : MOk as h M) (r : RelL as xs rs) (a : Addr) : Φ (.cell a) ((a, Is rs) :: M) := by
  have pre : as <+: as ++ [a] := List.prefix_append _ _
  refine p (as ++ [a]) pre (.cell a) _ (.cell ?_) (m.new r)
  rw [← m.len]; simp
theorem post_val {v : Vl} {r : Rv} (p : Post mg as (.ok v h) Φ ξ) (m : MOk as h M) (q : Rel as v r) : Φ r M := p as List.prefix_rfl r M q m
theorem sqv {K : Frg} {B H : Hp} {v : V} {x : Vl} {r : Rv} {xs : List Vl} (ok : Ok K B H M) (m : MOk as h M) (hs : seqOf h x = some xs) (rx : Rel as x r) (q : RvOk K B v r) :
    ∃ a vs rs, v = .ref a ∧ SqL K H a vs ∧ RvAll K B vs rs ∧ RelL as xs rs := by
  cases rx with
  | cell e =>
    cases q
    obtain ⟨rs, r1, hm⟩ := m.get e hs
    obtain ⟨_, vs, rs', hH, ha, hP⟩ := ok.mem _ hm.mem
    have e2 : rs' = rs := hP
    subst e2
    exact ⟨_, vs, _, rfl, .of hH, ha, r1⟩
  | frz ns =>
    cases q with
    | d q => cases q with
      | lst hs' ha =>
        have e3 : xs = ns.map .int := by simp only [seqOf] at hs; exact (Option.some.inj hs).symm
        subst e3
        refine ⟨_, _, _, rfl, ok.ext.seq hs', RvAll.ofData ha, ?_⟩
        rw [List.map_map]; exact RelL.ints ns
  | lst pu =>
    cases q with
    | d q => cases q with
      | lst hs' ha =>
        simp only [seqOf, Option.some.injEq] at hs
        subst hs
        obtain ⟨rs, h1, h2⟩ := pu.up as
        exact ⟨_, _, rs, rfl, ok.ext.seq hs', h2 _ _ _ ha, h1⟩
  | non => cases hs
  | bl => cases hs
  | int => cases hs
  | str => cases hs
  | tup => cases hs
theorem tupv {K : Frg} {B H : Hp} {v : V} {r : Rv} {xs : List Vl} (ok : Ok K B H M) (rx : Rel as (.tup xs) r) (q : RvOk K B v r) :
    ∃ a vs rs, v = .ref a ∧ SqT K H a vs ∧ RvAll K B vs rs ∧ RelL as xs rs := by
  cases rx with
  | tup hr => cases q with
    | tup h1 h2 => exact ⟨_, _, _, rfl, sq_mono ok.ext h1, h2, hr⟩
theorem rvAll_rep {K : Frg} {B : Hp} {vs : List V} {rs : List Rv} (a : RvAll K B vs rs) : ∀ n, RvAll K B (List.replicate n vs).flatten (List.replicate n rs).flatten
  | 0 => .nil
  | n + 1 => by rw [List.replicate_succ, List.replicate_succ, List.flatten_cons, List.flatten_cons]; exact RvAll.app a (rvAll_rep a n)
theorem relL_rep {xs : List Vl} {rs : List Rv} (a : RelL as xs rs) : ∀ n, RelL as (repL xs n) (List.replicate n rs).flatten
  | 0 => .nil
  | n + 1 => by unfold repL; rw [List.replicate_succ, List.replicate_succ, List.flatten_cons, List.flatten_cons]; exact RelL.app a (relL_rep a n)
def opv : Op → Operator
  | .add => .Add | .sub => .Sub | .mul => .Mult | .fdiv => .FloorDiv | .mod => .Mod | .pow => .Pow
theorem opC_eq {o : Operator} {p : Op} (h : opC o = some p) : o = opv p := by cases o <;> simp [opC] at h <;> subst h <;> rfl
def cpv : Cp → CmpOp
  | .lt => .Lt | .le => .LtE | .gt => .Gt | .ge => .GtE | .eq => .Eq | .ne => .NotEq | .is => .Is | .isNot => .IsNot
theorem cpC_eq {o : CmpOp} {p : Cp} (h : cpC o = some p) : o = cpv p := by cases o <;> simp [cpC] at h <;> subst h <;> rfl
theorem bin_ok {o : Op} {x y : Vl} {r q : Rv} (p : Post mg as (binV o x y h) Φ ξ) (m : MOk as h M) (rx : Rel as x r) (ry : Rel as y q) : G2 X (binaryOp (opv o)) r q M Φ := by
  cases rx with
  | int i =>
    cases ry with
    | int j =>
      cases o with
      | add => exact g2_add (post_val p m (.int _))
      | sub => exact g2_sub (post_val p m (.int _))
      | mul =>
        simp only [binV] at p
        split at p
        · rename_i hb
          simp only [wid, Bool.and_eq_true, decide_eq_true_eq] at hb
          exact g2_mul (wide_mul hb.1 hb.2 (by decide) (by decide) (by decide)) (post_val p m (.int _))
        · exact p.elim
      | fdiv =>
        simp only [binV] at p
        split at p
        · rename_i hb
          simp only [big, Bool.and_eq_true, decide_eq_true_eq] at hb
          exact g2_fdiv (divB hb.1 hb.2) (post_val p m (.int _))
        · exact p.elim
      | mod =>
        simp only [binV] at p
        split at p
        · rename_i hb
          exact g2_mod hb (post_val p m (.int _))
        · exact p.elim
      | pow =>
        simp only [binV] at p
        split at p
        · rename_i hb
          simp only [big, Bool.and_eq_true, decide_eq_true_eq] at hb
          obtain ⟨⟨h1, h2⟩, h3⟩ := hb
          obtain ⟨n, rfl⟩ : ∃ n : Nat, j = n := ⟨j.toNat, by omega⟩
          exact g2_pow (cpow (k := 1000) h1 (by decide) (by omega)) rfl (by rw [Int.toNat_natCast] at p; exact post_val p m (.int _))
        · exact p.elim
    | _ => cases o <;> exact p.elim
  | cell e =>
    cases ry with
    | cell e2 =>
      cases o with
      | add =>
        simp only [binV] at p
        split at p
        · rename_i xs ys hx hy
          split at p
          · rename_i hz
            refine g2_mk op_catS fun B H v w ok a b => ?_
            obtain ⟨a1, v1, r1, rfl, s1, t1, u1⟩ := sqv ok m (x := .cell _) hx (.cell e) a
            obtain ⟨a2, v2, r2, rfl, s2, t2, u2⟩ := sqv ok m (x := .cell _) hy (.cell e2) b
            exact ⟨_, _, _, _, rfl, rfl, s1, s2, by rw [t1.length, t2.length, ← u1.len, ← u2.len]; exact hz, fun l hl => post_own (P := Is (r1 ++ r2)) ok hl (RvAll.app t1 t2) rfl (post_new p m (u1.app u2) l)⟩
          · exact p.elim
        · exact p.elim
      | _ => exact p.elim
    | lst pu2 =>
      cases o with
      | add =>
        simp only [binV] at p
        split at p
        · rename_i xs hx
          split at p
          · rename_i hz
            refine g2_mk op_catS fun B H v w ok a b => ?_
            obtain ⟨a1, v1, r1, rfl, s1, t1, u1⟩ := sqv ok m (x := .cell _) hx (.cell e) a
            obtain ⟨a2, v2, r2, rfl, s2, t2, u2⟩ := sqv ok m (x := .lst _) rfl (.lst pu2) b
            exact ⟨_, _, _, _, rfl, rfl, s1, s2, by rw [t1.length, t2.length, ← u1.len, ← u2.len]; exact hz, fun l hl => post_own (P := Is (r1 ++ r2)) ok hl (RvAll.app t1 t2) rfl (post_new p m (u1.app u2) l)⟩
          · exact p.elim
        · exact p.elim
      | _ => exact p.elim
    | int k =>
      cases o with
      | mul =>
        simp only [binV] at p
        split at p
        · rename_i xs hx
          split at p
          · rename_i hz
            simp only [small, Bool.and_eq_true, decide_eq_true_eq] at hz
            refine g2_mk op_rep fun B H v w ok a b => ?_
            cases a
            obtain ⟨rs, r1, hm⟩ := m.get e hx
            obtain ⟨_, vs, rs', hH, ha, hP⟩ := ok.mem _ hm.mem
            have e2 : rs' = rs := hP
            subst e2
            exact ⟨_, k, vs, rfl, int_of b, hH, by omega, by omega, by rw [ha.length, ← r1.len]; exact hz.2, fun l hl => post_own (P := Is (List.replicate k.toNat rs').flatten) ok hl (rvAll_rep ha _) rfl (post_new p m (relL_rep r1 _) l)⟩
          · exact p.elim
        · exact p.elim
      | _ => exact p.elim
    | _ => cases o <;> exact p.elim
  | lst pu =>
    cases ry with
    | lst pu2 =>
      cases o with
      | add =>
        simp only [binV] at p
        split at p
        · rename_i hz
          refine g2_mk op_catS fun B H v w ok a b => ?_
          cases a with
          | d a => cases a with
            | lst s1 t1 => cases b with
              | d b => cases b with
                | lst s2 t2 =>
                  refine ⟨_, _, _, _, rfl, rfl, ok.ext.seq s1, ok.ext.seq s2, by rw [DpAll.len t1, DpAll.len t2, ← pu.len, ← pu2.len]; exact hz, fun l hl => post_frz ok hl ?_ (post_val p m (.lst (pu.app pu2)))⟩
                  exact .d (.lst (.of upd_same) (dpAll_mono (same_new (sub_none ok.ext hl)) _ (DpAll.app t1 t2)))
        · exact p.elim
      | _ => exact p.elim
    | _ => cases o <;> exact p.elim
  | _ => cases ry <;> exact p.elim
/-! ## what values are -/
mutual
theorem snap_pur : ∀ (n : Nat) {x : Vl} {d d' : PyData}, Pur x d → snap n h x = some d' → d' = d
  | n, _, _, _, .non, e => by cases n <;> (simp [snap] at e; exact e.symm)
  | n, _, _, _, .bl b, e => by cases n <;> (simp [snap] at e; exact e.symm)
  | n, _, _, _, .int b, e => by cases n <;> (simp [snap] at e; exact e.symm)
  | n, _, _, _, .str b, e => by cases n <;> (simp [snap] at e; exact e.symm)
  | n, _, _, _, .frz b, e => by cases n <;> (simp [snap] at e; exact e.symm)
  | 0, _, _, _, .tup a, e => by simp [snap] at e
  | 0, _, _, _, .lst a, e => by simp [snap] at e
  | n + 1, _, _, _, .tup a, e => by
    simp only [snap] at e
    obtain ⟨ds, h1, h2⟩ := Option.map_eq_some_iff.mp e
    subst h2
    rw [snapL_pur n a h1]
  | n + 1, _, _, _, .lst a, e => by
    simp only [snap] at e
    obtain ⟨ds, h1, h2⟩ := Option.map_eq_some_iff.mp e
    subst h2
    rw [snapL_pur n a h1]
theorem snapL_pur : ∀ (n : Nat) {xs : List Vl} {ds ds' : List PyData}, PurL xs ds → snapL (snap n h) xs = some ds' → ds' = ds
  | n, _, _, _, .nil, e => by simp [snapL] at e; exact e
  | n, _, _, _, .cons a b, e => by
    simp only [snapL] at e
    split at e
    · rename_i d ds h1 h2
      cases e
      rw [snap_pur n a h1, snapL_pur n b h2]
    · cases e
end
theorem snapL_ok {f : Vl → Option PyData} (hf : ∀ {x : Vl} {r : Rv} {d : PyData}, f x = some d → Rel as x r → Snap M r d) : ∀ {xs : List Vl} {rs : List Rv} {ds : List PyData}, snapL f xs = some ds → RelL as xs rs → SnapAll M rs ds
  | _, _, _, e, .nil => by simp [snapL] at e; subst e; exact .nil
  | x :: xs, _, _, e, .cons a b => by
    simp only [snapL] at e
    split at e
    · rename_i d ds h1 h2
      cases e
      exact .cons (hf h1 a) (snapL_ok hf h2 b)
    · cases e
theorem snap_ok (m : MOk as h M) : ∀ (n : Nat) {x : Vl} {r : Rv} {d : PyData}, snap n h x = some d → Rel as x r → Snap M r d := by
  intro n
  induction n with
  | zero =>
    intro x r d e q
    cases q <;> first | (simp [snap] at e; done) | (simp [snap] at e; subst e; exact .d)
  | succ n ih =>
    intro x r d e q
    cases q with
    | cell c =>
      simp only [snap] at e
      split at e
      · rename_i xs hx
        obtain ⟨ds, h1, h2⟩ := Option.map_eq_some_iff.mp e
        subst h2
        obtain ⟨rs, r1, hm⟩ := m.get c hx
        exact .c hm (snapL_ok (fun e q => ih e q) h1 r1)
      · cases e
    | tup a =>
      simp only [snap] at e
      obtain ⟨ds, h1, h2⟩ := Option.map_eq_some_iff.mp e
      subst h2
      exact .t (snapL_ok (fun e q => ih e q) h1 a)
    | lst pu => cases snap_pur _ (.lst pu) e; exact .d
    | _ => simp [snap] at e; subst e; exact .d
theorem eq_ok {x y : Vl} {b : Bool} {r q : Rv} (e : eqV x y h = some b) (hu : X.A.units + 64 < cLine) (m : MOk as h M) (rx : Rel as x r) (ry : Rel as y q) :
    (Φ (.d (.bool b)) M → G2 X (compareOp .Eq) r q M Φ) ∧ (Φ (.d (.bool (!b))) M → G2 X (compareOp .NotEq) r q M Φ) := by
  unfold eqV at e
  split at e
  · cases e
    cases rx
    cases ry
    exact ⟨fun k => g2_eqS k, fun k => g2_neS k⟩
  split at e
  · rename_i d e' h1 h2
    split at e
    · rename_i hs
      cases e
      simp only [Bool.and_eq_true] at hs
      have s1 := snap_ok m _ h1 rx
      have s2 := snap_ok m _ h2 ry
      exact ⟨fun k => g2_mk (op_eqD hu) fun B H v w ok a b => ⟨_, _, s1.dp ok a, s2.dp ok b, hs.1, hs.2, post_same ok (.d (.bl _)) k⟩,
        fun k => g2_mk (op_neD hu) fun B H v w ok a b => ⟨_, _, s1.dp ok a, s2.dp ok b, hs.1, hs.2, post_same ok (.d (.bl _)) k⟩⟩
    · cases e
  · cases e
theorem non_dec {K : Frg} {B : Hp} {v : V} {x : Vl} {r : Rv} (q : RvOk K B v r) (rx : Rel as x r) : decide (v = V.non) = (match x with | .non => true | _ => false) := by
  cases rx with
  | non => cases q with | d q => cases q; rfl
  | bl => cases q with | d q => cases q; rfl
  | int => cases q with | d q => cases q; rfl
  | str => cases q with | d q => cases q; rfl
  | frz => cases q with | d q => cases q; rfl
  | lst => cases q with | d q => cases q; rfl
  | cell => cases q; rfl
  | tup => cases q; rfl
theorem non_of {K : Frg} {B : Hp} {v : V} (q : RvOk K B v (.d .none)) : v = V.non := by cases q with | d q => cases q; rfl
theorem cmp_ok {o : Cp} {x y : Vl} {r q : Rv} (p : Post mg as (cmpV o x y h) Φ ξ) (hu : X.A.units + 64 < cLine) (m : MOk as h M) (rx : Rel as x r) (ry : Rel as y q) : G2 X (compareOp (cpv o)) r q M Φ := by
  cases o with
  | eq =>
    simp only [cmpV] at p
    split at p
    · rename_i b e; exact (eq_ok e hu m rx ry).1 (post_val p m (.bl _))
    · exact p.elim
  | ne =>
    simp only [cmpV] at p
    split at p
    · rename_i b e; exact (eq_ok e hu m rx ry).2 (post_val p m (.bl _))
    · exact p.elim
  | is =>
    cases ry with
    | non =>
      refine g2_mk op_isN fun B H v w ok a b => ⟨non_of b, ?_⟩
      rw [non_dec a rx]
      cases x <;> exact post_same ok (.d (.bl _)) (post_val p m (.bl _))
    | _ => cases rx <;> exact p.elim
  | isNot =>
    cases ry with
    | non =>
      refine g2_mk op_notN fun B H v w ok a b => ⟨non_of b, ?_⟩
      rw [non_dec a rx]
      cases x <;> exact post_same ok (.d (.bl _)) (post_val p m (.bl _))
    | _ => cases rx <;> exact p.elim
  | lt =>
    cases rx with
    | int i => cases ry with
      | int j => exact g2_lt (post_val p m (.bl _))
      | _ => exact p.elim
    | _ => exact p.elim
  | le =>
    cases rx with
    | int i => cases ry with
      | int j => exact g2_le (post_val p m (.bl _))
      | _ => exact p.elim
    | _ => exact p.elim
  | gt =>
    cases rx with
    | int i => cases ry with
      | int j => exact g2_gt (post_val p m (.bl _))
      | _ => exact p.elim
    | _ => exact p.elim
  | ge =>
    cases rx with
    | int i => cases ry with
      | int j => exact g2_ge (post_val p m (.bl _))
      | _ => exact p.elim
    | _ => exact p.elim
theorem at_rel {xs : List Vl} {rs : List Rv} {i : Int} {v : Vl} (a : RelL as xs rs) (e : atI xs i = some v) : ∃ q, atI rs i = some q ∧ Rel as v q := by
  unfold atI at e ⊢
  obtain ⟨j, h1, h2⟩ := Option.bind_eq_some_iff.mp e
  obtain ⟨q, h3, h4⟩ := a.get j h2
  exact ⟨q, by rw [← a.len, h1]; exact h3, h4⟩
theorem ix_up {ds : List PyData} {rs : List Rv} {i : Int} {r : Rv} (u : UpL ds rs) (h : atI rs i = some r) (k : Φ r M) : GIx X (.d (.list ds)) (.d (.int i)) M Φ := fun B H v w ok q1 q2 => by
  cases q1 with
  | d q1 => cases q1 with
    | lst hs ha =>
      have hx := u _ _ _ ha
      unfold atI at h
      obtain ⟨j, h1, h2⟩ := Option.bind_eq_some_iff.mp h
      obtain ⟨x, h3, h4⟩ := RvAll.get j r hx h2
      refine .inl ⟨_, _, i, x, rfl, int_of q2, ok.ext.seq hs, ?_, post_same ok h4 k⟩
      unfold atI
      rw [hx.length, h1]
      exact h3
theorem ix_ok {x y : Vl} {r q : Rv} (p : Post mg as (ixV x y h) Φ ξ) (m : MOk as h M) (rx : Rel as x r) (ry : Rel as y q) : GIx X r q M Φ := by
  cases ry with
  | int i =>
    cases rx with
    | cell c =>
      simp only [ixV] at p
      split at p
      · rename_i xs hx
        split at p
        · rename_i v hv
          obtain ⟨rs, r1, hm⟩ := m.get c hx
          obtain ⟨z, h1, h2⟩ := at_rel r1 hv
          exact ix_c hm h1 (post_val p m h2)
        · exact p.elim
      · exact p.elim
    | tup a =>
      simp only [ixV] at p
      split at p
      · rename_i v hv
        obtain ⟨z, h1, h2⟩ := at_rel a hv
        exact ix_u h1 (post_val p m h2)
      · exact p.elim
    | frz ns =>
      simp only [ixV] at p
      split at p
      · rename_i v hv
        refine ix_l (ds := ns.map .int) (d := .int v) ?_ (post_val p m (.int _))
        unfold atI at hv ⊢
        obtain ⟨j, h1, h2⟩ := Option.bind_eq_some_iff.mp hv
        rw [List.length_map, h1]
        simp [h2]
      · exact p.elim
    | lst pu =>
      simp only [ixV] at p
      split at p
      · rename_i v hv
        obtain ⟨rs, h1, h2⟩ := pu.up as
        obtain ⟨z, h3, h4⟩ := at_rel h1 hv
        exact ix_up h2 h3 (post_val p m h4)
      · exact p.elim
    | str z =>
      simp only [ixV] at p
      split at p
      · rename_i hz
        split at p
        · rename_i c hc
          exact ix_s hz hc (post_val p m (.str _))
        · exact p.elim
      · exact p.elim
    | _ => exact p.elim
  | _ => exact p.elim
end
end IR

set_option Elab.async false
set_option linter.all false
set_option maxRecDepth 100000
set_option maxHeartbeats 2000000
namespace IR
open PySem PySem.Spec PyProof.Rows L2 Dl
section
variable {X : Cx} {mg : Mg} {as : List Addr} {h : Mm} {M : Mem} {Φ : Pst} {ξ : EV → Mem → Prop}
def Bi.val : Bi → Value
  | .len => .builtin "len" | .abs => .builtin "abs" | .max => .builtin "max" | .min => .builtin "min" | .toInt => .type "int" | .list => .type "list" | .tuple => .type "tuple" | .sum => .builtin "sum" | .all => .builtin "all" | .repr => .builtin "repr"
theorem RvAll.one {K : Frg} {B : Hp} {vs : List V} {r : Rv} (a : RvAll K B vs [r]) : ∃ v, vs = [v] ∧ RvOk K B v r := by
  cases a with | cons q t => cases t; exact ⟨_, rfl, q⟩
theorem RvAll.two {K : Frg} {B : Hp} {vs : List V} {r r' : Rv} (a : RvAll K B vs [r, r']) : ∃ v v', vs = [v, v'] ∧ RvOk K B v r ∧ RvOk K B v' r' := by
  cases a with | cons q t => cases t with | cons q2 t => cases t; exact ⟨_, _, rfl, q, q2⟩
theorem ints_rel : ∀ {xs : List Vl} {is : List Int} {rs : List Rv}, asInts xs = some is → RelL as xs rs → rs = is.map fun i => .d (.int i)
  | [], _, _, e, .nil => by simp [asInts] at e; subst e; rfl
  | x :: xs, is, _, e, .cons a b => by
    cases a with
    | int i =>
      simp only [asInts] at e
      obtain ⟨is', h1, h2⟩ := Option.map_eq_some_iff.mp e
      subst h2
      rw [ints_rel h1 b]; rfl
    | _ => simp [asInts] at e
theorem bools_rel : ∀ {xs : List Vl} {is : List Bool} {rs : List Rv}, asBools xs = some is → RelL as xs rs → rs = is.map fun i => .d (.bool i)
  | [], _, _, e, .nil => by simp [asBools] at e; subst e; rfl
  | x :: xs, is, _, e, .cons a b => by
    cases a with
    | bl i =>
      simp only [asBools] at e
      obtain ⟨is', h1, h2⟩ := Option.map_eq_some_iff.mp e
      subst h2
      rw [bools_rel h1 b]; rfl
    | _ => simp [asBools] at e
theorem rvAll_int {K : Frg} {B : Hp} : ∀ {vs : List V} {is : List Int}, RvAll K B vs (is.map fun i => .d (.int i)) → vs = is.map V.int
  | _, [], a => by cases a; rfl
  | _, i :: is, a => by cases a with | cons q t => rw [int_of q, rvAll_int t]; rfl
theorem rvAll_bl {K : Frg} {B : Hp} : ∀ {vs : List V} {is : List Bool}, RvAll K B vs (is.map fun i => .d (.bool i)) → vs = is.map V.bl
  | _, [], a => by cases a; rfl
  | _, i :: is, a => by cases a with | cons q t => rw [bool_of q, rvAll_bl t]; rfl
theorem len_ok {x : Vl} {r : Rv} {n : Nat} (m : MOk as h M) (rx : Rel as x r) (hx : (∃ ys, x = .tup ys ∧ n = ys.length) ∨ ∃ ys, seqOf h x = some ys ∧ n = ys.length) (k : Φ (.d (.int n)) M) : GC X (.builtin "len") [r] M Φ :=
  gc_mk call_len_seq fun B H vs ok a => by
    obtain ⟨v, rfl, q⟩ := RvAll.one a
    rcases hx with ⟨ys, rfl, rfl⟩ | ⟨ys, hs, rfl⟩
    · obtain ⟨p, ws, rs, rfl, h1, h2, h3⟩ := tupv ok rx q
      exact ⟨p, ws, rfl, .inr h1, by rw [h2.length, ← h3.len]; exact post_same ok (.d (.int _)) k⟩
    · obtain ⟨p, ws, rs, rfl, h1, h2, h3⟩ := sqv ok m hs rx q
      exact ⟨p, ws, rfl, .inl h1, by rw [h2.length, ← h3.len]; exact post_same ok (.d (.int _)) k⟩
theorem list_ok {x : Vl} {r : Rv} {ys : List Vl} (m : MOk as h M) (rx : Rel as x r) (hx : x = .tup ys ∨ seqOf h x = some ys) (p : Post mg as (.ok (.cell h.length) (h ++ [ys])) Φ ξ) : GC X (.type "list") [r] M Φ :=
  gc_mk call_list_of fun B H vs ok a => by
    obtain ⟨v, rfl, q⟩ := RvAll.one a
    rcases hx with rfl | hs
    · obtain ⟨b, ws, rs, rfl, h1, h2, h3⟩ := tupv ok rx q
      exact ⟨b, ws, rfl, .inr h1, fun l hl => post_own (P := Is rs) ok hl h2 rfl (post_new p m h3 l)⟩
    · obtain ⟨b, ws, rs, rfl, h1, h2, h3⟩ := sqv ok m hs rx q
      exact ⟨b, ws, rfl, .inl h1, fun l hl => post_own (P := Is rs) ok hl h2 rfl (post_new p m h3 l)⟩
theorem tuple_ok {x : Vl} {r : Rv} {ys : List Vl} (m : MOk as h M) (rx : Rel as x r) (hx : x = .tup ys ∨ seqOf h x = some ys) (p : Post mg as (.ok (.tup ys) h) Φ ξ) : GC X (.type "tuple") [r] M Φ :=
  gc_mk call_tuple_of fun B H vs ok a => by
    obtain ⟨v, rfl, q⟩ := RvAll.one a
    rcases hx with rfl | hs
    · obtain ⟨b, ws, rs, rfl, h1, h2, h3⟩ := tupv ok rx q
      cases rx with
      | tup hr => exact ⟨b, ws, rfl, .inr ⟨h1, post_same ok q (post_val p m (.tup hr))⟩⟩
    · obtain ⟨b, ws, rs, rfl, h1, h2, h3⟩ := sqv ok m hs rx q
      exact ⟨b, ws, rfl, .inl ⟨h1, fun l hl => post_frz ok hl (.tup (.of upd_same) (rvAll_mono (same_new (sub_none ok.ext hl)) h2)) (post_val p m (.tup h3))⟩⟩
theorem repr_ok {x : Vl} {r : Rv} {d : PyData} (hg : X.A.guards = some []) (hu : X.A.units + 64 < cLine) (m : MOk as h M) (rx : Rel as x r) (hx : (∃ c, x = .cell c) ∨ (∃ ys, x = .tup ys) ∨ ∃ ys, x = .lst ys) (e : snap 8 h x = some d) (o : reprOk d = true) (k : Φ (.d (.str d.shown)) M) : GC X (.builtin "repr") [r] M Φ := by
  simp only [reprOk, Bool.and_eq_true, decide_eq_true_eq] at o
  obtain ⟨⟨⟨⟨o1, o2⟩, o3⟩, o4⟩, o5⟩ := o
  have sh : Sh d.bulk d.depth d := ⟨o1, o2, Nat.le_refl _, o4, Nat.le_refl _⟩
  have s := snap_ok m _ e rx
  refine gc_mk (call_repr hg o1 (by omega) (sh.line o5)) fun B H vs ok a => ?_
  obtain ⟨v, rfl, q⟩ := RvAll.one a
  have dp := s.dp ok q
  rcases hx with ⟨c, rfl⟩ | ⟨ys, rfl⟩ | ⟨ys, rfl⟩
  · cases rx with | cell _ => cases q; exact ⟨_, rfl, dp, post_same ok (.d (.str _)) k⟩
  · cases rx with | tup _ => cases q; exact ⟨_, rfl, dp, post_same ok (.d (.str _)) k⟩
  · cases rx with | lst _ => cases q with | d q => cases q; exact ⟨_, rfl, dp, post_same ok (.d (.str _)) k⟩
theorem maxOf_ok : ∀ {xs : List Int}, xs ≠ [] → maxOf xs ∈ xs ∧ ∀ y ∈ xs, y ≤ maxOf xs
  | [], h => absurd rfl h
  | a :: as, _ => by
    have key : ∀ (as : List Int) (a : Int), (as.foldl Max.max a = a ∨ as.foldl Max.max a ∈ as) ∧ a ≤ as.foldl Max.max a ∧ ∀ y ∈ as, y ≤ as.foldl Max.max a := by
      intro as
      induction as with
      | nil => intro a; simp
      | cons b as ih =>
        intro a
        rw [List.foldl_cons]
        obtain ⟨h1, h2, h3⟩ := ih (Max.max a b)
        refine ⟨?_, by omega, fun y hy => ?_⟩
        · rcases h1 with h1 | h1
          · rw [h1]
            by_cases c : a ≤ b
            · right; rw [show Max.max a b = b by omega]; simp
            · left; omega
          · right; exact List.mem_cons_of_mem _ h1
        · rcases List.mem_cons.mp hy with rfl | hy
          · omega
          · exact h3 y hy
    obtain ⟨h1, h2, h3⟩ := key as a
    refine ⟨?_, fun y hy => ?_⟩
    · show as.foldl Max.max a ∈ a :: as
      rcases h1 with h1 | h1
      · rw [h1]; simp
      · exact List.mem_cons_of_mem _ h1
    · show y ≤ as.foldl Max.max a
      rcases List.mem_cons.mp hy with rfl | hy
      · exact h2
      · exact h3 y hy
theorem minOf_ok : ∀ {xs : List Int}, xs ≠ [] → minOf xs ∈ xs ∧ ∀ y ∈ xs, minOf xs ≤ y
  | [], h => absurd rfl h
  | a :: as, _ => by
    have key : ∀ (as : List Int) (a : Int), (as.foldl Min.min a = a ∨ as.foldl Min.min a ∈ as) ∧ as.foldl Min.min a ≤ a ∧ ∀ y ∈ as, as.foldl Min.min a ≤ y := by
      intro as
      induction as with
      | nil => intro a; simp
      | cons b as ih =>
        intro a
        rw [List.foldl_cons]
        obtain ⟨h1, h2, h3⟩ := ih (Min.min a b)
        refine ⟨?_, by omega, fun y hy => ?_⟩
        · rcases h1 with h1 | h1
          · rw [h1]
            by_cases c : b ≤ a
            · right; rw [show Min.min a b = b by omega]; simp
            · left; omega
          · right; exact List.mem_cons_of_mem _ h1
        · rcases List.mem_cons.mp hy with rfl | hy
          · omega
          · exact h3 y hy
    obtain ⟨h1, h2, h3⟩ := key as a
    refine ⟨?_, fun y hy => ?_⟩
    · show as.foldl Min.min a ∈ a :: as
      rcases h1 with h1 | h1
      · rw [h1]; simp
      · exact List.mem_cons_of_mem _ h1
    · show as.foldl Min.min a ≤ y
      rcases List.mem_cons.mp hy with rfl | hy
      · exact h2
      · exact h3 y hy
theorem bi_ok {b : Bi} {xs : List Vl} {rs : List Rv} (p : Post mg as (biV b xs h) Φ ξ) (hc : X.calm = true) (hg : X.A.guards = some []) (hu : X.A.units + 64 < cLine) (m : MOk as h M) (rx : RelL as xs rs) : GC X b.val rs M Φ := by
  unfold biV at p
  split at p
  · cases rx with | cons a t => cases t; exact len_ok m a (.inl ⟨_, rfl, rfl⟩) (post_val p m (.int _))
  · split at p
    · rename_i hs
      cases rx with | cons a t => cases t; exact len_ok m a (.inr ⟨_, hs, rfl⟩) (post_val p m (.int _))
    · exact p.elim
  · cases rx with | cons a t => cases t; cases a; exact gc_abs (post_val p m (.int _))
  · cases rx with | cons a t => cases t with | cons a2 t => cases t; cases a; cases a2; exact gc_max hc (post_val p m (.int _))
  · cases rx with | cons a t => cases t with | cons a2 t => cases t; cases a; cases a2; exact gc_min hc (post_val p m (.int _))
  · split at p
    · rename_i hs
      split at p
      · rename_i is his
        split at p
        · exact p.elim
        · rename_i hne
          cases rx with
          | cons a t =>
            cases t
            refine gc_mk (cr_max hc) fun B H vs ok q0 => ?_
            obtain ⟨v, rfl, q⟩ := RvAll.one q0
            obtain ⟨b, ws, rs, rfl, h1, h2, h3⟩ := sqv ok m hs a q
            have e := ints_rel his h3
            subst e
            have e := rvAll_int h2
            subst e
            refine ⟨b, _, rfl, h1, by cases ‹List Int› <;> simp_all, fun z hz hy => ?_⟩
            have := (maxOf_ok (by simpa using hne)).2 z hz
            have := hy _ (maxOf_ok (by simpa using hne)).1
            rw [show z = maxOf is by omega]
            exact post_same ok (.d (.int _)) (post_val p m (.int _))
      · exact p.elim
    · exact p.elim
  · split at p
    · rename_i hs
      split at p
      · rename_i is his
        split at p
        · exact p.elim
        · rename_i hne
          cases rx with
          | cons a t =>
            cases t
            refine gc_mk (cr_min hc) fun B H vs ok q0 => ?_
            obtain ⟨v, rfl, q⟩ := RvAll.one q0
            obtain ⟨b, ws, rs, rfl, h1, h2, h3⟩ := sqv ok m hs a q
            have e := ints_rel his h3
            subst e
            have e := rvAll_int h2
            subst e
            refine ⟨b, _, rfl, h1, by cases ‹List Int› <;> simp_all, fun z hz hy => ?_⟩
            have := (minOf_ok (by simpa using hne)).2 z hz
            have := hy _ (minOf_ok (by simpa using hne)).1
            rw [show z = minOf is by omega]
            exact post_same ok (.d (.int _)) (post_val p m (.int _))
      · exact p.elim
    · exact p.elim
  · cases rx with | cons a t => cases t; cases a; exact gc_int (post_val p m (.int _))
  · cases rx with | cons a t => cases t; cases a; exact gc_intB (post_val p m (.int _))
  · cases rx with | cons a t => cases t; exact list_ok m a (.inl rfl) p
  · split at p
    · rename_i hs
      cases rx with | cons a t => cases t; exact list_ok m a (.inr hs) p
    · exact p.elim
  · cases rx with | cons a t => cases t; exact tuple_ok m a (.inl rfl) p
  · split at p
    · rename_i hs
      cases rx with | cons a t => cases t; exact tuple_ok m a (.inr hs) p
    · exact p.elim
  · split at p
    · rename_i hs
      split at p
      · rename_i his
        cases rx with
        | cons a t =>
          cases t
          refine gc_mk (cr_sum hc) fun B H vs ok q0 => ?_
          obtain ⟨v, rfl, q⟩ := RvAll.one q0
          obtain ⟨b, ws, rs, rfl, h1, h2, h3⟩ := sqv ok m hs a q
          have e := ints_rel his h3
          subst e
          have e := rvAll_int h2
          subst e
          exact ⟨b, _, rfl, h1, post_same ok (.d (.int _)) (post_val p m (.int _))⟩
      · exact p.elim
    · exact p.elim
  · split at p
    · rename_i hs
      split at p
      · rename_i his
        cases rx with
        | cons a t =>
          cases t
          refine gc_mk (cr_all hc) fun B H vs ok q0 => ?_
          obtain ⟨v, rfl, q⟩ := RvAll.one q0
          obtain ⟨b, ws, rs, rfl, h1, h2, h3⟩ := sqv ok m hs a q
          have e := bools_rel his h3
          subst e
          have e := rvAll_bl h2
          subst e
          exact ⟨b, _, rfl, h1, post_same ok (.d (.bl _)) (post_val p m (.bl _))⟩
      · exact p.elim
    · exact p.elim
  · split at p
    · rename_i hd
      split at p
      · rename_i ho
        cases rx with | cons a t => cases t; exact repr_ok hg hu m a (.inl ⟨_, rfl⟩) hd ho (post_val p m (.str _))
      · exact p.elim
    · exact p.elim
  · split at p
    · rename_i hd
      split at p
      · rename_i ho
        cases rx with | cons a t => cases t; exact repr_ok hg hu m a (.inr (.inl ⟨_, rfl⟩)) hd ho (post_val p m (.str _))
      · exact p.elim
    · exact p.elim
  · split at p
    · rename_i hd
      split at p
      · rename_i ho
        cases rx with | cons a t => cases t; exact repr_ok hg hu m a (.inr (.inr ⟨_, rfl⟩)) hd ho (post_val p m (.str _))
      · exact p.elim
    · exact p.elim
  · split at p
    · rename_i hb
      simp only [big, decide_eq_true_eq] at hb
      cases rx with
      | cons a t =>
        cases t
        cases a
        refine gc_mk SkE.call_repr_int fun B H vs ok q0 => ?_
        obtain ⟨v, rfl, q⟩ := RvAll.one q0
        exact ⟨_, by rw [int_of q], by have := PySem.Flt.log2_lt_of (by decide : 0 < 1000) hb; omega, post_same ok (.d (.str _)) (post_val p m (.str _))⟩
    · exact p.elim
  · exact p.elim
/-! isinstance -/
def Ty.st : Ty → String
  | .int => "int" | .bool => "bool" | .str => "str" | .list => "list" | .tuple => "tuple"
def tyS : Vl → String
  | .non => "NoneType" | .bl _ => "bool" | .int _ => "int" | .str _ => "str" | .tup _ => "tuple" | .cell _ => "list" | .frz _ => "list" | .lst _ => "list"
theorem isi_kit (x : Vl) (t : Ty) : kitB (tyS x) t.st = some (isiV x t) := by
  cases x <;> cases t <;> (simp only [tyS, Ty.st, isiV]; decide +kernel)
theorem tyX_of {B H : Hp} {K : Frg} {v : V} {x : Vl} {r : Rv} (ok : Ok K B H M) (m : MOk as h M) (hl : match x with | .cell n => n < h.length | _ => True) (rx : Rel as x r) (q : RvOk K B v r) : TyX K H v (.type (tyS x)) := by
  cases rx with
  | non => cases q with | d q => exact ty_of (dp_mono ok.ext _ q)
  | bl => cases q with | d q => exact ty_of (dp_mono ok.ext _ q)
  | int => cases q with | d q => exact ty_of (dp_mono ok.ext _ q)
  | str => cases q with | d q => exact ty_of (dp_mono ok.ext _ q)
  | frz => cases q with | d q => exact ty_of (dp_mono ok.ext _ q)
  | lst => cases q with | d q => exact ty_of (dp_mono ok.ext _ q)
  | cell c =>
    cases q
    obtain ⟨rs, r1, hm⟩ := m.get c (List.getElem?_eq_getElem hl)
    obtain ⟨_, vs, rs', hH, ha, hP⟩ := ok.mem _ hm.mem
    exact .base (.lst hH)
  | tup a =>
    cases q with
    | tup h1 h2 =>
      rcases sq_mono ok.ext h1 with (h | ⟨_, h⟩) | ⟨_, _, _, h, c, _⟩
      · exact .base (.tup h)
      · exact .fTuple h
      · exact .kTuple h c
theorem cell_lt {c : Nat} {r : Rv} (m : MOk as h M) (rx : Rel as (.cell c) r) : c < h.length := by
  cases rx with | cell e => rw [← m.len]; exact (List.getElem?_eq_some_iff.mp e).1
theorem isi_ok {x : Vl} {r : Rv} {t : Ty} (m : MOk as h M) (rx : Rel as x r) (k : Φ (.d (.bool (isiV x t))) M) : GC X (.builtin "isinstance") [r, .raw (.ty t.st)] M Φ :=
  gc_mk call_isi fun B H vs ok a => by
    obtain ⟨v, w, rfl, q1, q2⟩ := RvAll.two a
    cases q2
    have ty : TyX X.K H v (.type (tyS x)) := tyX_of ok m (by cases x <;> first | exact cell_lt m rx | trivial) rx q1
    exact ⟨_, _, _, _, _, rfl, .ty t.st, ty, kit_ty (isi_kit x t), post_same ok (.d (.bl _)) k⟩
end
end IR

set_option Elab.async false
set_option linter.all false
set_option maxRecDepth 100000
set_option maxHeartbeats 4000000
namespace IR
open PySem PySem.Spec PyProof.Rows L2 Dl
section
variable {X : Cx} {ρ : List Rv} {M : Mem} {Φ : Pst} {Ξ : Xi} {D : DE}
/-! ## walks over lists that may change, and don't -/
def GWk (K : Frg) (B1 : Hp) (S : Mem → Prop) : Hp → Prop := fun H => ∃ B M, Ok K B H M ∧ Same B1 B ∧ S M
def YWk (K : Frg) (B1 : Hp) (S : Mem → Prop) (items : List Rv) : Nat → Hp → V → Hp → Prop := fun i H x H' => ∀ r, items[i]? = some r → ∀ B M, Ok K B H M → Same B1 B → S M → ∃ B', Ok K B' H' M ∧ Fr B H M B' H' M ∧ RvOk K B' x r
def SourceW (X : Cx) (B H : Hp) (M : Mem) (Θ : List Rv → (Mem → Prop) → Mem → Prop) (J : It) (H1 : Hp) : Prop :=
  ∃ B1 M1 items S, Ok X.K B1 H1 M1 ∧ Fr B H M B1 H1 M1 ∧ Θ items S M1 ∧ Walk J items.length (GWk X.K B1 S) (YWk X.K B1 S items)
def GIW (X : Cx) (tg iter : Expr) (ρ : List Rv) (M : Mem) (Θ : List Rv → (Mem → Prop) → Mem → Prop) (Ξ : Xi) : Prop :=
  ∀ B H σ, Ok X.K B H M → EnvOk X.K B σ ρ → Takes X (PostX X.K B H M Ξ) → iS X tg iter σ H (SourceW X B H M Θ)
def ForW (X : Cx) (tg : Expr) (body : List Stmt) (D : DE) (S : Mem → Prop) : List Rv → List Rv → Mem → Prop
  | [], ρ, M => S M ∧ D.nx ρ M
  | r :: rs, ρ, M => S M ∧ GG X tg r ρ M (fun ρ2 M2 => GSs X body ρ2 M2 { D with nx := ForW X tg body D S rs, ct := ForW X tg body D S rs, bk := D.nx }) []
theorem forW_S {tg : Expr} {body : List Stmt} {S : Mem → Prop} : ∀ {items : List Rv}, ForW X tg body D S items ρ M → S M
  | [], h => h.1
  | _ :: _, h => h.1
theorem forW_at {tg : Expr} {body : List Stmt} {S : Mem → Prop} : ∀ (items : List Rv) (i : Nat) (r : Rv), items[i]? = some r → ∀ ρ' M', ForW X tg body D S (items.drop i) ρ' M' →
    GG X tg r ρ' M' (fun ρ2 M2 => GSs X body ρ2 M2 { D with nx := ForW X tg body D S (items.drop (i + 1)), ct := ForW X tg body D S (items.drop (i + 1)), bk := D.nx }) [] := by
  intro items i r h ρ' M' q
  have hl := (List.getElem?_eq_some_iff.mp h).1
  rw [List.drop_eq_getElem_cons hl] at q
  have e : items[i] = r := (List.getElem?_eq_some_iff.mp h).2
  rw [e] at q
  exact q.2
theorem gs_forW {tg iter : Expr} {body : List Stmt} {pos : Pos} (hp : PassesOwn (model X.prog X.w) X.A X.env X.xe) (hc : X.calm = true) (hf : ∀ x, foldedSetIterable iter X.env x = pure x)
    (h : GIW X tg iter ρ M (fun items S M1 => ForW X tg body D S items ρ M1) D.xx) : GS X (.For tg iter body [] pos) ρ M D := fun B H σ ok env tk => by
  refine sS_of (ps_for hp hc pi_S pg_S pss_S hf) ?_
  refine iS_mono (h B H σ ok env tk) fun J H1 ⟨B1, M1, items, S, o1, f1, hF, w⟩ => ?_
  refine for_it w (fun i σ' H' => PostN X.K B1 H1 M1 (ForW X tg body D S (items.drop i)) σ' H') ⟨B1, M1, ρ, o1, .refl, env_mono f1.ex env, hF⟩ (fun i σ' H' _ ⟨B2, M2, ρ2, o2, f2, _, k⟩ => ⟨B2, M2, o2, f2.ex, forW_S k⟩)
    (fun i x σ' H2 H3 hi ⟨B2, M2, ρ2, o2, f2, e2, k⟩ y => ?_) (fun σ' H' q => ?_)
  · obtain ⟨r, hr⟩ : ∃ r, items[i]? = some r := ⟨items[i], by simp [hi]⟩
    obtain ⟨B3, o3, f3, q3⟩ := y r hr B2 M2 o2 f2.ex (forW_S k)
    refine gS_mono (forW_at items i r hr ρ2 M2 k B3 H3 σ' x o3 (env_mono f3.ex e2) q3) fun σ4 H4 ⟨_, B4, M4, ρ4, o4, f4, e4, k4⟩ => ?_
    have f14 : Fr B1 H1 M1 B4 H4 M4 := (f2.trans f3).trans f4
    refine ssS_mono (k4 B4 H4 σ4 o4 e4 (tk_after tk (f1.trans f14))) ⟨fun _ _ => postN_after f14, fun _ _ => postE_after (f1.trans f14), fun _ _ => postN_after (f1.trans f14), fun _ _ => postN_after f14⟩
  · rw [List.drop_length] at q
    obtain ⟨B2, M2, ρ2, o2, f2, e2, k⟩ := q
    exact ⟨B2, M2, ρ2, o2, f1.trans f2, e2, k.2⟩
def CompW (X : Cx) (tg elt : Expr) (ifs : List Expr) (scope : Scope) (vs : List Nat) (ρ : List Rv) (F : List Rv → Mem → Prop) (S : Mem → Prop) : List Rv → List Rv → Mem → Prop
  | [], acc, M => S M ∧ F acc M
  | r :: rs, acc, M => S M ∧ acc.length < sizeLine ∧ AllB X scope fun X1 => GG X1 tg r (wipeR ρ vs) M (fun ρ2 M2 => AllB X scope fun X2 => GTs X2 ifs ρ2 M2 (fun b M3 =>
        (b = true → AllB X scope fun X3 => GE X3 elt ρ2 M3 (fun y M4 => CompW X tg elt ifs scope vs ρ F S rs (acc ++ [y]) M4) X0) ∧ (b = false → CompW X tg elt ifs scope vs ρ F S rs acc M3)) X0) vs
theorem compW_S {tg elt : Expr} {ifs : List Expr} {scope : Scope} {vs : List Nat} {F : List Rv → Mem → Prop} {S : Mem → Prop} : ∀ {items acc : List Rv}, CompW X tg elt ifs scope vs ρ F S items acc M → S M
  | [], _, h => h.1
  | _ :: _, _, h => h.1
section
variable {tg elt iter : Expr} {ifs : List Expr} {scope : Scope} {own : List (Str × Nat)} {pos : Pos}
theorem comp_turnsW (own : List (Str × Nat)) (hown : own ≠ []) {F : List Rv → Mem → Prop} {Q : VK} {σ : Slots} {B1 H1 : Hp} {M1 : Mem} {J : It} {items : List Rv} {L : Addr} {S : Mem → Prop} (w : Walk J items.length (GWk X.K B1 S) (YWk X.K B1 S items))
    (o1 : Ok X.K B1 H1 M1) (env : EnvOk X.K B1 σ ρ) (hL : H1 L = none) (h0 : CompW X tg elt ifs scope (own.map (·.2)) ρ F S items [] M1)
    (hd : ∀ H' B' M' acc xs, Ok X.K B' H' M' → Fr B1 H1 M1 B' H' M' → At B' H' M' L xs → RvAll X.K B' xs acc → F acc M' → Q (.ref L) H') :
    ∃ W : Nat → Nat → Hp → Prop, (∃ m, W 0 m (upd H1 L (.lst []))) ∧ ∀ i m H, W i m H → (J.stop i H ∧ Q (.ref L) H) ∨ (J.go i H ∧ ∃ Nx : Hp → Prop, (∀ H', Nx H' → ∃ m', m' < m ∧ W (i + 1) m' H') ∧
      ∀ x H', J.yld i H x H' → gB X scope tg x (wipe σ (own.map (·.2))) H' fun σ2 H2 => wipe σ2 (own.map (·.2)) = wipe σ (own.map (·.2)) ∧ tB X scope ifs σ2 H2 fun b H3 =>
        if b = true then eB X scope elt σ2 H3 fun y H4 => ∃ acc, H4 L = some (.lst acc) ∧ acc.length < sizeLine ∧ Nx (upd H4 L (.lst (acc ++ [y]))) else Nx H3) := by
  have bL := sub_none o1.ext hL
  have mL : ∀ p ∈ M1, p.1 ≠ L := fun p hp e => by
    obtain ⟨_, _, _, h, _⟩ := o1.mem p hp
    rw [e, hL] at h; cases h
  refine lc_it w (Qd := fun H' => Q (.ref L) H') (fun i H' => ∃ B' M' acc xs, Ok X.K B' H' M' ∧ Fr B1 H1 M1 B' H' M' ∧ At B' H' M' L xs ∧ RvAll X.K B' xs acc ∧ CompW X tg elt ifs scope (own.map (·.2)) ρ F S (items.drop i) acc M') ?_
    (fun i H' _ ⟨B', M', acc, xs, o, f, a, r, c⟩ => ⟨B', M', o, f.ex, compW_S c⟩) (fun i x H2 H3 hi ⟨B2, M2, acc, xs, o2, f2, a2, r2, c2⟩ y => ?_) (fun H' ⟨B', M', acc, xs, o, f, a, r, c⟩ => ?_)
  · refine ⟨B1, M1, [], [], ⟨fun x u e => by rw [upd_ne (ne_of_none e bL)]; exact o1.ext x u e, fun q hq => ?_, o1.nd⟩, fr_set .refl hL, ⟨upd_same, bL, mL⟩, .nil, h0⟩
    obtain ⟨h1, vs, rs, h2, h3, h4⟩ := o1.mem q hq
    exact ⟨h1, vs, rs, by rw [upd_ne (mL q hq)]; exact h2, h3, h4⟩
  · obtain ⟨r, hr⟩ : ∃ r, items[i]? = some r := ⟨items[i], by simp [hi]⟩
    obtain ⟨B3, o3, f3, q3⟩ := y r hr B2 M2 o2 f2.ex (compW_S c2)
    rw [List.drop_eq_getElem_cons hi, (List.getElem?_eq_some_iff.mp hr).2] at c2
    obtain ⟨_, hz, c2⟩ := c2
    have a3 := a2.step f3
    have f13 := f2.trans f3
    intro s H C cl fp
    refine gS_mono (c2 s H C cl fp B3 H3 (wipe σ (own.map (·.2))) x o3 (env_wipe (env_mono f13.ex env) _) q3) fun σ4 H4 ⟨hw, B4, M4, ρ4, o4, f4, e4, c4⟩ => ?_
    have ww : ∀ (vs : List Nat) (τ : Slots), wipe (wipe τ vs) vs = wipe τ vs := by
      intro vs τ
      have ix : ∀ (vs : List Nat) (τ : Slots) (j : Nat), (wipe τ vs)[j]? = if j ∈ vs ∧ j < τ.length then some none else τ[j]? := by
        intro vs
        induction vs with
        | nil => intro τ j; simp [wipe]
        | cons a vs ih =>
          intro τ j
          show ((wipe τ vs).set a none)[j]? = _
          rw [List.getElem?_set, ih, wipe_length]
          by_cases e : a = j
          · subst e
            by_cases hl : a < τ.length
            · simp [hl]
            · simp [hl, List.getElem?_eq_none (Nat.le_of_not_lt hl)]
          · have e' : ¬ j = a := fun z => e z.symm
            simp [e, e']
      refine List.ext_getElem? fun j => ?_
      rw [ix vs (wipe τ vs) j, ix vs τ j, wipe_length]
      split <;> rfl
    refine ⟨?_, ?_⟩
    · cases own with
      | nil => exact absurd rfl hown
      | cons p own => rw [hw (by simp), ww]
    · intro s H C cl fp
      have a4 := a3.step f4
      have f14 := f13.trans f4
      have k := c4 s H C cl fp
      have fin : ∀ b H5, PostT X.K B4 H4 M4 (fun b M3 => (b = true → AllB X scope fun X3 => GE X3 elt ρ4 M3 (fun y M4 => CompW X tg elt ifs scope (own.map (·.2)) ρ F S (items.drop (i + 1)) (acc ++ [y]) M4) X0) ∧ (b = false → CompW X tg elt ifs scope (own.map (·.2)) ρ F S (items.drop (i + 1)) acc M3)) b H5 →
          (if b = true then eB X scope elt σ4 H5 fun y H4 => ∃ acc, H4 L = some (.lst acc) ∧ acc.length < sizeLine ∧ (∃ B' M' acc_1 xs, Ok X.K B' (upd H4 L (.lst (acc ++ [y]))) M' ∧ Fr B1 H1 M1 B' (upd H4 L (.lst (acc ++ [y]))) M' ∧ At B' (upd H4 L (.lst (acc ++ [y]))) M' L xs ∧ RvAll X.K B' xs acc_1 ∧ CompW X tg elt ifs scope (own.map (·.2)) ρ F S (items.drop (i + 1)) acc_1 M')
            else ∃ B' M' acc xs, Ok X.K B' H5 M' ∧ Fr B1 H1 M1 B' H5 M' ∧ At B' H5 M' L xs ∧ RvAll X.K B' xs acc ∧ CompW X tg elt ifs scope (own.map (·.2)) ρ F S (items.drop (i + 1)) acc M') := fun b H5 ⟨B5, M5, o5, f5, k5⟩ => by
        have a5 := a4.step f5
        have f15 := f14.trans f5
        have r5 := rvAll_mono (f3.ex.trans (f4.ex.trans f5.ex)) r2
        cases b with
        | true =>
          rw [if_pos rfl]
          intro s H C cl fp
          refine eS_mono (k5.1 rfl s H C cl fp B5 H5 σ4 o5 (env_mono f5.ex e4) tk0) fun v H6 ⟨B6, M6, r6, o6, f6, q6, c6⟩ => ?_
          have a6 := a5.step f6
          refine ⟨xs, a6.h, by rw [r2.length]; exact hz, B6, M6, acc ++ [r6], xs ++ [v], (a6.set o6).1, fr_set (f15.trans f6) hL, (a6.set o6).2, RvAll.app (rvAll_mono f6.ex r5) (.cons q6 .nil), c6⟩
        | false =>
          rw [if_neg Bool.false_ne_true]
          exact ⟨B5, M5, acc, xs, o5, f15, a5, r5, k5.2 rfl⟩
      match ifs, k, fin with
      | [], k, fin => exact ⟨tYes, pts_nil, fin true H4 ⟨B4, M4, o4, .refl, k⟩⟩
      | [c], k, fin => exact ⟨_, pts_one pt_S, tS_mono (k B4 H4 σ4 o4 e4 tk0) fin⟩
      | _ :: _ :: _, k, fin => exact k.elim
  · rw [List.drop_length] at c
    exact hd H' B' M' acc xs o f a r c.2
theorem ge_lcW (own : List (Str × Nat)) {F : List Rv → Mem → Prop} (hF : F = Frz Φ ∨ F = Own Φ) (hown : own ≠ []) (hc : X.calm = true) (hN : X.N.Nodup) (hk : BlkOk X.N X.env.scope scope own) (hs : ∀ x, foldedSetIterable iter X.env x = pure x)
    (h : GIW X tg iter ρ M (fun items S M1 => CompW X tg elt ifs scope (own.map (·.2)) ρ F S items [] M1) Ξ) : GE X (.ListComp elt [⟨tg, iter, ifs, 0⟩] scope pos) ρ M Φ Ξ := fun B H σ ok env tk =>
  eS_of (pe_lc (g := gB X scope tg) (tt := tB X scope ifs) (te := eB X scope elt) (own := own) hc hN pi_S hk (fun s H C cl fp => ⟨fun pins s' σ H v u Q I r h => h s _ C cl fp pins s' u I r⟩)
      (fun s H C cl fp => ⟨fun pins s' σ H Q I h => by obtain ⟨t, ht, k⟩ := h s _ C cl fp; exact ht.run pins s' σ H Q I k⟩) (fun s H C cl fp => ⟨fun pins s' σ H Q I h => h s _ C cl fp pins s' I⟩) hs)
    (iS_mono (h B H σ ok env tk) fun J H1 ⟨B1, M1, items, S, o1, f1, hC, w⟩ L hL => comp_turnsW own hown (F := F) w o1 (env_mono f1.ex env) hL hC fun H' B' M' acc xs o f a r k => lc_end hF f1 hL o f a r k)
/-- x = [..] -/
theorem gs_lcW (own : List (Str × Nat)) {i : Nat} {y : Str} {py spos : Pos} {F : List Rv → Mem → Prop} (hF : F = Frz (fun r M1 => D.nx (ρ.set i r) M1) ∨ F = Own (fun r M1 => D.nx (ρ.set i r) M1)) (hown : own ≠ []) (hv : Var X i y) (hc : X.calm = true) (hN : X.N.Nodup) (hyl : X.env.scope.names.lookup y = some .local)
    (hsw : swapsWith (.ListComp elt [⟨tg, iter, ifs, 0⟩] scope pos) (some (.Name y py)) spos.line X.env = pure true) (hk : BlkOk X.N X.env.scope scope own) (hs : ∀ x, foldedSetIterable iter X.env x = pure x)
    (h : GIW X tg iter ρ M (fun items S M1 => CompW X tg elt ifs scope (own.map (·.2)) ρ F S items [] M1) D.xx) : GS X (.Assign [.Name y py] (.ListComp elt [⟨tg, iter, ifs, 0⟩] scope pos) spos) ρ M D := fun B H σ ok env tk =>
  sS_of (ps_setLc (g := gB X scope tg) (tt := tB X scope ifs) (te := eB X scope elt) (own := own) hc hN hv.n hyl hsw pi_S hk (fun s H C cl fp => ⟨fun pins s' σ H v u Q I r h => h s _ C cl fp pins s' u I r⟩)
      (fun s H C cl fp => ⟨fun pins s' σ H Q I h => by obtain ⟨t, ht, k⟩ := h s _ C cl fp; exact ht.run pins s' σ H Q I k⟩) (fun s H C cl fp => ⟨fun pins s' σ H Q I h => h s _ C cl fp pins s' I⟩) hs)
    (iS_mono (h B H σ ok env tk) fun J H1 ⟨B1, M1, items, S, o1, f1, hC, w⟩ L hL => comp_turnsW own hown (F := F) (Q := fun v H1 => gName i v σ H1 (ends X.K B H M D).nx) w o1 (env_mono f1.ex env) hL hC fun H' B' M' acc xs o f a r k => by
      obtain ⟨B2, M2, r2, o2, f2, q2, k2⟩ := lc_end (Φ := fun r M1 => D.nx (ρ.set i r) M1) hF f1 hL o f a r k
      exact ⟨B2, M2, _, o2, f2, env_set (.some q2) i (env_mono f2.ex env), k2⟩)
end
end
end IR

set_option Elab.async false
set_option linter.all false
set_option maxRecDepth 100000
set_option maxHeartbeats 4000000
namespace IR
open PySem PySem.Spec PyProof.Rows L2 Dl
section
variable {X : Cx} {ρ : List Rv} {M : Mem} {Φ : Pst} {Ξ : Xi} {D : DE}
/-- a list, whatever holds it -/
def Lst (r : Rv) (rs : List Rv) (M : Mem) : Prop := (∃ a, r = .cell a ∧ Has a (Is rs) M) ∨ ∃ ds : List PyData, r = .d (.list ds) ∧ UpL ds rs
theorem lst_sq {K : Frg} {B H : Hp} {v : V} {r : Rv} {rs : List Rv} (ok : Ok K B H M) (q : RvOk K B v r) (l : Lst r rs M) : ∃ a vs, v = .ref a ∧ SqL K H a vs ∧ RvAll K B vs rs := by
  rcases l with ⟨a, rfl, hm⟩ | ⟨ds, rfl, hu⟩
  · cases q
    obtain ⟨_, vs, rs', hH, ha, hP⟩ := ok.mem _ hm.mem
    have e2 : rs' = rs := hP
    subst e2
    exact ⟨_, vs, rfl, .of hH, ha⟩
  · cases q with
    | d q => cases q with
      | lst hs ha => exact ⟨_, _, rfl, ok.ext.seq hs, hu _ _ _ ha⟩
theorem gi_overL {tg iter : Expr} {Θ : List Rv → (Mem → Prop) → Mem → Prop} (h : GE X iter ρ M (fun r M1 => ∃ rs, Lst r rs M1 ∧ Θ rs (Lst r rs) M1) Ξ) : GIW X tg iter ρ M Θ Ξ := fun B H σ ok env tk =>
  iS_of (pi_list pe_S) (one h ok env tk fun v H1 B1 M1 r o1 f1 q1 ⟨rs, l, k⟩ => by
    obtain ⟨a, vs, rfl, s1, t1⟩ := lst_sq o1 q1 l
    have at' : ∀ {H : Hp} {B : Hp} {M : Mem}, Ok X.K B H M → Same B1 B → Lst r rs M → ∃ ws, SqL X.K H a ws ∧ RvAll X.K B ws rs := fun o s l => by
      obtain ⟨b, ws, e, s2, t2⟩ := lst_sq o (rv_mono s q1) l
      cases e
      exact ⟨ws, s2, t2⟩
    refine ⟨a, rfl, ⟨vs, s1⟩, B1, M1, rs, Lst r rs, o1, f1, k, ⟨fun i H hi ⟨B, M, o, s, l⟩ => ?_, fun H ⟨B, M, o, s, l⟩ => ?_, fun i H x H' hi g y q hq B M o s l => ?_⟩⟩
    · obtain ⟨ws, s2, t2⟩ := at' o s l
      exact (walk_list (xs := ws)).goes i H (by rw [t2.length]; exact hi) s2
    · obtain ⟨ws, s2, t2⟩ := at' o s l
      have := (walk_list (xs := ws)).stops H s2
      rw [t2.length] at this; exact this
    · obtain ⟨ws, s2, t2⟩ := at' o s l
      obtain ⟨e, hx⟩ := (walk_list (xs := ws)).yields i H x H' (by rw [t2.length]; exact hi) s2 y
      subst e
      obtain ⟨z, h1, h2⟩ := RvAll.get i q t2 hq
      rw [hx] at h1; cases h1
      exact ⟨B, o, .refl, h2⟩)
theorem gi_overT {tg iter : Expr} {Θ : List Rv → (Mem → Prop) → Mem → Prop} (h : GE X iter ρ M (fun r M1 => ∃ rs, r = .tup rs ∧ Θ rs (fun _ => True) M1) Ξ) : GIW X tg iter ρ M Θ Ξ := fun B H σ ok env tk =>
  iS_of (pi_tup pe_S) (one h ok env tk fun v H1 B1 M1 r o1 f1 q1 ⟨rs, e, k⟩ => by
    subst e
    cases q1 with
    | tup hs ha =>
      rename_i a vs
      refine ⟨a, rfl, ⟨vs, sq_mono o1.ext hs⟩, B1, M1, rs, fun _ => True, o1, f1, k, ⟨fun i H hi ⟨B, M, o, s, _⟩ => ?_, fun H ⟨B, M, o, s, _⟩ => ?_, fun i H x H' hi g y q hq B M o s l => ?_⟩⟩
      · exact (walk_tup (xs := vs)).goes i H (by rw [ha.length]; exact hi) (sq_mono (s.trans o.ext) hs)
      · have := (walk_tup (xs := vs)).stops H (sq_mono (s.trans o.ext) hs)
        rw [ha.length] at this; exact this
      · obtain ⟨e, hx⟩ := (walk_tup (xs := vs)).yields i H x H' (by rw [ha.length]; exact hi) (sq_mono (s.trans o.ext) hs) y
        subst e
        obtain ⟨z, h1, h2⟩ := RvAll.get i q ha hq
        rw [hx] at h1; cases h1
        exact ⟨B, o, .refl, rv_mono s h2⟩)
theorem pairStepW {K : Frg} {B : Hp} {p q : Rv} {x y : V} {H : Hp} {T : Addr} {M : Mem} (ok : Ok K B H M) (hT : H T = none) (hx : RvOk K B x p) (hy : RvOk K B y q) : ∃ B', Ok K B' (upd H T (.tup [x, y])) M ∧ Fr B H M B' (upd H T (.tup [x, y])) M ∧ RvOk K B' (.ref T) (.tup [p, q]) := by
  have f := ok_frz (o := .tup [x, y]) ok hT
  exact ⟨_, f.1, f.2, .tup (.of upd_same) (.cons (rv_mono f.2.ex hx) (.cons (rv_mono f.2.ex hy) .nil))⟩
theorem gi_zipW {e e2 : Expr} {p pos tpos : Pos} {elts : List Expr} {kk : Nat} {Θ : List Rv → (Mem → Prop) → Mem → Prop} (hb : X.mg "zip" = none) (hg : Gl X "zip") (hs : starEach [e, e2] X.env = (false, eval e X.env) :: starEach [e2] X.env) (hpl : (backTo pos (starEach [e2] X.env)).any (·.1) = false)
    (h : GA X [e, e2] ρ M (fun rs M1 => ∃ r q xs ys, rs = [r, q] ∧ Lst r xs M1 ∧ Lst q ys M1 ∧ Θ ((xs.zip ys).map fun p => .tup [p.1, p.2]) (fun M => Lst r xs M ∧ Lst q ys M) M1) Ξ) : GIW X (.Tuple elts kk tpos) (.Call (.Name "zip" p) [e, e2] [] pos) ρ M Θ Ξ := fun B H σ ok env tk =>
  iS_of (pi_zip hg hb pa_S hs hpl) (args h ok env tk fun vs H1 B1 M1 rs o1 f1 q0 ⟨r, q, xs, ys, e, l1, l2, k⟩ => by
    subst e
    obtain ⟨v, w, rfl, q1, q2⟩ := RvAll.two q0
    obtain ⟨a, v1, rfl, s1, t1⟩ := lst_sq o1 q1 l1
    obtain ⟨b, v2, rfl, s2, t2⟩ := lst_sq o1 q2 l2
    have at1 : ∀ {H : Hp} {B : Hp} {M : Mem}, Ok X.K B H M → Same B1 B → Lst r xs M → ∃ ws, SqL X.K H a ws ∧ RvAll X.K B ws xs := fun o s l => by
      obtain ⟨b, ws, e, s2, t2⟩ := lst_sq o (rv_mono s q1) l
      cases e
      exact ⟨ws, s2, t2⟩
    have at2 : ∀ {H : Hp} {B : Hp} {M : Mem}, Ok X.K B H M → Same B1 B → Lst q ys M → ∃ ws, SqL X.K H b ws ∧ RvAll X.K B ws ys := fun o s l => by
      obtain ⟨b, ws, e, s2, t2⟩ := lst_sq o (rv_mono s q2) l
      cases e
      exact ⟨ws, s2, t2⟩
    have hn : ((xs.zip ys).map fun p : Rv × Rv => Rv.tup [p.1, p.2]).length = min xs.length ys.length := by rw [List.length_map, List.length_zip]
    refine ⟨a, b, v1, v2, rfl, s1, s2, B1, M1, _, _, o1, f1, k, ⟨fun i H hi ⟨B, M, o, s, l⟩ => ?_, fun H ⟨B, M, o, s, l⟩ => ?_, fun i H x H' hi g y z hz B M o s l => ?_⟩⟩
    · obtain ⟨w1, c1, d1⟩ := at1 o s l.1
      obtain ⟨w2, c2, d2⟩ := at2 o s l.2
      exact (walk_zip (xs := w1) (ys := w2) rfl).goes i H (by rw [d1.length, d2.length]; rw [hn] at hi; exact hi) ⟨c1, c2⟩
    · obtain ⟨w1, c1, d1⟩ := at1 o s l.1
      obtain ⟨w2, c2, d2⟩ := at2 o s l.2
      have := (walk_zip (xs := w1) (ys := w2) rfl).stops H ⟨c1, c2⟩
      rw [d1.length, d2.length] at this; rw [hn]; exact this
    · obtain ⟨w1, c1, d1⟩ := at1 o s l.1
      obtain ⟨w2, c2, d2⟩ := at2 o s l.2
      rw [hn] at hi
      obtain ⟨T, x1, y1, ev, hT, e3, h1, h2⟩ := (walk_zip (xs := w1) (ys := w2) rfl).yields i H x H' (by rw [d1.length, d2.length]; exact hi) ⟨c1, c2⟩ y
      subst ev e3
      have l1 : i < xs.length := by omega
      have l2 : i < ys.length := by omega
      have hr' : z = .tup [xs[i], ys[i]] := by
        rw [List.getElem?_map, List.getElem?_eq_getElem (by rw [List.length_zip]; omega), List.getElem_zip] at hz
        exact (Option.some.inj hz).symm
      subst hr'
      obtain ⟨u1, g1, k1⟩ := RvAll.get i xs[i] d1 (List.getElem?_eq_getElem l1)
      obtain ⟨u2, g2, k2⟩ := RvAll.get i ys[i] d2 (List.getElem?_eq_getElem l2)
      cases (show some x1 = some u1 from h1.symm.trans g1)
      cases (show some y1 = some u2 from h2.symm.trans g2)
      exact pairStepW o hT k1 k2)
theorem gi_enumW {e : Expr} {p pos tpos : Pos} {elts : List Expr} {kk : Nat} {Θ : List Rv → (Mem → Prop) → Mem → Prop} (hb : X.mg "enumerate" = none) (hg : Gl X "enumerate") (hs : starEach [e] X.env = [(false, eval e X.env)])
    (h : GA X [e] ρ M (fun rs M1 => ∃ r xs, rs = [r] ∧ Lst r xs M1 ∧ Θ (xs.zipIdx.map fun p => .tup [.d (.int (p.2 : Nat)), p.1]) (Lst r xs) M1) Ξ) : GIW X (.Tuple elts kk tpos) (.Call (.Name "enumerate" p) [e] [] pos) ρ M Θ Ξ := fun B H σ ok env tk =>
  iS_of (pi_enum hg hb pa_S hs) (args h ok env tk fun vs H1 B1 M1 rs o1 f1 q0 ⟨r, xs, e, l1, k⟩ => by
    subst e
    obtain ⟨v, rfl, q1⟩ := RvAll.one q0
    obtain ⟨a, v1, rfl, s1, t1⟩ := lst_sq o1 q1 l1
    have at1 : ∀ {H : Hp} {B : Hp} {M : Mem}, Ok X.K B H M → Same B1 B → Lst r xs M → ∃ ws, SqL X.K H a ws ∧ RvAll X.K B ws xs := fun o s l => by
      obtain ⟨b, ws, e, s2, t2⟩ := lst_sq o (rv_mono s q1) l
      cases e
      exact ⟨ws, s2, t2⟩
    have hn : (xs.zipIdx.map fun p : Rv × Nat => Rv.tup [.d (.int (p.2 : Nat)), p.1]).length = xs.length := by rw [List.length_map, List.length_zipIdx]
    refine ⟨a, v1, rfl, s1, B1, M1, _, _, o1, f1, k, ⟨fun i H hi ⟨B, M, o, s, l⟩ => ?_, fun H ⟨B, M, o, s, l⟩ => ?_, fun i H x H' hi g y z hz B M o s l => ?_⟩⟩
    · obtain ⟨w1, c1, d1⟩ := at1 o s l
      exact (walk_enum (xs := w1)).goes i H (by rw [d1.length]; rw [hn] at hi; exact hi) c1
    · obtain ⟨w1, c1, d1⟩ := at1 o s l
      have := (walk_enum (xs := w1)).stops H c1
      rw [d1.length] at this; rw [hn]; exact this
    · obtain ⟨w1, c1, d1⟩ := at1 o s l
      rw [hn] at hi
      obtain ⟨T, x1, y1, ev, hT, e3, h1, h2⟩ := (walk_enum (xs := w1)).yields i H x H' (by rw [d1.length]; exact hi) c1 y
      subst ev e3
      have hr' : z = .tup [.d (.int (i : Nat)), xs[i]] := by
        rw [List.getElem?_map, List.getElem?_zipIdx, List.getElem?_eq_getElem hi] at hz
        simpa using (Option.some.inj hz).symm
      subst hr'
      obtain ⟨u1, g1, k1⟩ := RvAll.get i xs[i] d1 (List.getElem?_eq_getElem hi)
      cases (show some y1 = some u1 from h2.symm.trans g1)
      cases (show some (V.int (i : Nat)) = some x1 from h1)
      exact pairStepW o hT (.d (.int _)) k1)
theorem walk_rngW {K : Frg} {B1 : Hp} {lo : Int} {n : Nat} : Walk (Itr lo n) ((List.range n).map fun i => Rv.d (.int (lo + (i : Nat)))).length (GWk K B1 fun _ => True) (YWk K B1 (fun _ => True) ((List.range n).map fun i => Rv.d (.int (lo + (i : Nat))))) := by
  have hn : ((List.range n).map fun i => Rv.d (.int (lo + (i : Nat)))).length = n := by rw [List.length_map, List.length_range]
  rw [hn]
  refine ⟨fun i H hi _ => walk_range.goes i H hi trivial, fun H _ => walk_range.stops H trivial, fun i H x H' hi _ y q hq B M o s _ => ?_⟩
  obtain ⟨e, hx⟩ := walk_range.yields i H x H' hi trivial y
  subst e hx
  rw [List.getElem?_map, List.getElem?_range hi] at hq
  cases hq
  exact ⟨B, o, .refl, .d (.int _)⟩
theorem gi_rng1W {tg a : Expr} {p pos : Pos} {Θ : List Rv → (Mem → Prop) → Mem → Prop} (hb : X.mg "range" = none) (hg : Gl X "range") (hs : starEach [a] X.env = [(false, eval a X.env)])
    (h : GA X [a] ρ M (fun rs M1 => ∃ j : Int, rs = [.d (.int j)] ∧ -(2 ^ 62) ≤ j ∧ j < 2 ^ 62 ∧ Θ ((List.range j.toNat).map fun i => .d (.int (0 + (i : Nat)))) (fun _ => True) M1) Ξ) : GIW X tg (.Call (.Name "range" p) [a] [] pos) ρ M Θ Ξ := fun B H σ ok env tk =>
  iS_of (pi_range1 hg hb pa_S hs) (args h ok env tk fun vs H1 B1 M1 rs o1 f1 q0 ⟨j, e, hj1, hj2, k⟩ => by
    subst e
    obtain ⟨v, rfl, q1⟩ := RvAll.one q0
    exact ⟨j, by rw [int_of q1], hj1, hj2, B1, M1, _, _, o1, f1, k, walk_rngW⟩)
theorem gi_rng2W {tg a b : Expr} {p pos : Pos} {Θ : List Rv → (Mem → Prop) → Mem → Prop} (hb : X.mg "range" = none) (hg : Gl X "range") (hs : starEach [a, b] X.env = [(false, eval a X.env), (false, eval b X.env)]) (hs2 : starEach [b] X.env = [(false, eval b X.env)])
    (h : GA X [a, b] ρ M (fun rs M1 => ∃ i j : Int, rs = [.d (.int i), .d (.int j)] ∧ (-(2 ^ 62) ≤ i ∧ i < 2 ^ 62 ∧ -(2 ^ 62) ≤ j ∧ j < 2 ^ 62) ∧ Θ ((List.range (j - i).toNat).map fun k => .d (.int (i + (k : Nat)))) (fun _ => True) M1) Ξ) : GIW X tg (.Call (.Name "range" p) [a, b] [] pos) ρ M Θ Ξ := fun B H σ ok env tk =>
  iS_of (pi_range2 hg hb pa_S hs hs2) (args h ok env tk fun vs H1 B1 M1 rs o1 f1 q0 ⟨i, j, e, hj, k⟩ => by
    subst e
    obtain ⟨v, w, rfl, q1, q2⟩ := RvAll.two q0
    exact ⟨i, j, by rw [int_of q1, int_of q2], hj, B1, M1, _, _, o1, f1, k, walk_rngW⟩)
theorem walk_rngCW {K : Frg} {B1 : Hp} {lo c : Int} {n : Nat} : Walk (Itc lo c n) ((List.range n).map fun i => Rv.d (.int (lo + (i : Nat) * c))).length (GWk K B1 fun _ => True) (YWk K B1 (fun _ => True) ((List.range n).map fun i => Rv.d (.int (lo + (i : Nat) * c)))) := by
  have hn : ((List.range n).map fun i => Rv.d (.int (lo + (i : Nat) * c))).length = n := by rw [List.length_map, List.length_range]
  rw [hn]
  refine ⟨fun i H hi _ => walk_rangeC.goes i H hi trivial, fun H _ => walk_rangeC.stops H trivial, fun i H x H' hi _ y q hq B M o s _ => ?_⟩
  obtain ⟨e, hx⟩ := walk_rangeC.yields i H x H' hi trivial y
  subst e hx
  rw [List.getElem?_map, List.getElem?_range hi] at hq
  cases hq
  exact ⟨B, o, .refl, .d (.int _)⟩
theorem gi_rng3W {tg a b d : Expr} {p pos : Pos} {Θ : List Rv → (Mem → Prop) → Mem → Prop} (hb : X.mg "range" = none) (hg : Gl X "range") (hs : starEach [a, b, d] X.env = (false, eval a X.env) :: starEach [b, d] X.env) (hpl : (backTo pos (starEach [b, d] X.env)).any (·.1) = false)
    (h : GA X [a, b, d] ρ M (fun rs M1 => ∃ i j : Int, rs = [.d (.int i), .d (.int j), .d (.int (-1))] ∧ (-(2 ^ 62) ≤ i ∧ i < 2 ^ 62 ∧ -(2 ^ 62) ≤ j ∧ j < 2 ^ 62) ∧ Θ ((List.range (i - j).toNat).map fun k => .d (.int (i + (k : Nat) * (-1)))) (fun _ => True) M1) Ξ) : GIW X tg (.Call (.Name "range" p) [a, b, d] [] pos) ρ M Θ Ξ := fun B H σ ok env tk =>
  iS_of (pi_range3 hg hb pa_S hs hpl) (args h ok env tk fun vs H1 B1 M1 rs o1 f1 q0 ⟨i, j, e, hj, k⟩ => by
    subst e
    cases q0 with
    | cons q1 q0 => cases q0 with
      | cons q2 q0 => cases q0 with
        | cons q3 q0 =>
          cases q0
          exact ⟨i, j, -1, _, by rw [int_of q1, int_of q2, int_of q3], RgC.neg hj.1 hj.2.1 hj.2.2.1 hj.2.2.2, B1, M1, _, _, o1, f1, k, walk_rngCW⟩)
theorem gg_lstU {ts : List Expr} {k : Nat} {pos : Pos} {rs : List Rv} {ds : List PyData} {Ψ : List Rv → Mem → Prop} {vs : List Nat} (hc : X.calm = true) (hu : UpL ds rs)
    (hn : (assignEach ts X.env).length = rs.length) (hs : (assignEach ts X.env).findIdx? (·.1) = none) (h : GGs X ts rs ρ M Ψ vs) : GG X (.Tuple ts k pos) (.d (.list ds)) ρ M Ψ vs := fun B H σ v ok env q => by
  cases q with
  | d q => cases q with
    | lst hq ha =>
      obtain ⟨t, ht, k⟩ := h B H σ _ ok env (hu _ _ _ ha)
      exact gS_of (pg_lst hc ht hn hs) ⟨_, _, rfl, ok.ext.seq hq, (hu _ _ _ ha).length, k⟩
/-! ## targets within targets -/
def gsS (X : Cx) (ts : List Expr) : TGs := fun vs σ H Q => ∀ (pins : List (Addr × Obj)) (s : Shared) (us : List Value), Inv X pins σ H s → Vals vs us →
  wpAny (model X.prog X.w) X.A (assignInOrder ((assignEach ts X.env).map (·.2)) us) (fun _ s' => ∃ σ' H', Inv X pins σ' H' s' ∧ Q σ' H') X.xe s
theorem pgs_S {ts : List Expr} : PGs X ts (gsS X ts) := ⟨fun pins s σ H vs us Q I r h => h pins s us I r⟩
theorem gsS_of {ts : List Expr} {t : TGs} (h : PGs X ts t) {vs : List V} {σ : Slots} {H : Hp} {Q : Slots → Hp → Prop} (q : t vs σ H Q) : gsS X ts vs σ H Q := fun pins s us I r => h.run pins s σ H vs us Q I r q
theorem gsS_mono {ts : List Expr} {vs : List V} {σ : Slots} {H : Hp} {Q Q' : Slots → Hp → Prop} (h : gsS X ts vs σ H Q) (k : ∀ σ' H', Q σ' H' → Q' σ' H') : gsS X ts vs σ H Q' := fun pins s us I r =>
  thn (h pins s us I r) fun _ s' ⟨σ', H', I', q⟩ => ⟨σ', H', I', k _ _ q⟩
theorem ggs_consG {tg : Expr} {ts : List Expr} {r : Rv} {rs : List Rv} {Ψ : List Rv → Mem → Prop} {vs : List Nat} (he : (assignEach (tg :: ts) X.env).map (·.2) = assign tg X.env :: (assignEach ts X.env).map (·.2))
    (hr : GG X tg r ρ M (fun ρ1 M1 => GGs X ts rs ρ1 M1 Ψ vs) vs) : GGs X (tg :: ts) (r :: rs) ρ M Ψ vs := fun B H σ us ok env q => by
  cases q with
  | cons q qs =>
    rename_i v us
    refine ⟨gCons (gS X tg) (gsS X ts), pgs_cons pg_S pgs_S he, v, us, rfl, ?_⟩
    refine gS_mono (hr B H σ v ok env q) fun σ1 H1 ⟨w, B1, M1, ρ1, o1, f1, e1, k⟩ => ?_
    obtain ⟨t, ht, k2⟩ := k B1 H1 σ1 us o1 e1 (rvAll_mono f1.ex qs)
    exact gsS_mono (gsS_of ht k2) fun σ2 H2 ⟨w2, z⟩ => ⟨fun hv => (w2 hv).trans (w hv), postN_after f1 z⟩
end
end IR

set_option Elab.async false
set_option linter.all false
set_option maxRecDepth 100000
set_option maxHeartbeats 4000000
namespace IR
open PySem PySem.Spec PyProof.Rows L2 Dl
theorem plainIx {b : Expr} (h1 : notSlice b = true) : PlainIx b := by
  intro o i
  cases b <;> first | rfl | cases h1
theorem star_cons {e : Expr} {es : List Expr} {env : Env} (h : notStar e = true) : starEach (e :: es) env = (false, eval e env) :: starEach es env := by
  cases e <;> first | rfl | cases h
theorem star_any {env : Env} {pos : Pos} : ∀ {es : List Expr}, es.all notStar = true → (backTo pos (starEach es env)).any (·.1) = false
  | [], _ => rfl
  | e :: es, h => by
    rw [List.all_cons, Bool.and_eq_true] at h
    rw [star_cons h.1]
    have := star_any (env := env) (pos := pos) h.2
    simpa [backTo] using this
theorem asg_cons {e : Expr} {es : List Expr} {env : Env} (h : notStar e = true) : assignEach (e :: es) env = (false, assign e env) :: assignEach es env := by
  cases e <;> first | rfl | cases h
theorem marks_no {op : CmpOp} {b : Expr} (h : notSet b = true) : behindInMarks op b = false := by
  cases b <;> first | rfl | cases h
theorem fold_no {b : Expr} (h : notSet b = true) (env : Env) : ∀ x, foldedSetIterable b env x = pure x := by
  intro x
  cases b <;> first | rfl | cases h
theorem swap_no {e : Expr} {t : Option Expr} {l : Nat} {env : Env} (h : notComp e = true) : swapsWith e t l env = pure false := by
  cases e <;> first | rfl | cases h
theorem attr_no {o : Expr} {a : Str} {env : Env} {w : Sem Value} (h : plainB o = true) : attributeBase o a env w = w := by
  cases o <;> first | rfl | cases h
def plainT : Expr → Bool
  | .UnaryOp .Not _ _ => false
  | .BoolOp _ _ _ => false
  | .IfExp _ _ _ _ => false
  | .Compare _ _ _ _ => false
  | _ => true
theorem true_plain {e : Expr} {env : Env} (h : plainT e = true) : ∀ whole, isTrue e env whole = (do let v ← whole; standAt e.pos; holding [v] (truthy v)) := by
  intro w
  cases e with
  | UnaryOp o a p => cases o <;> first | rfl | cases h
  | _ => first | rfl | cases h
/-! ## what stands around -/
structure Ctx (X : Cx) (c : Cc) (C : Str → List Vl → Mm → R Vl) (k : Nat) : Prop where
  hN : X.N = c.N
  sc : X.env.scope = c.sc
  nd : X.N.Nodup
  calm : X.calm = true
  gu : X.A.guards = some []
  room : Room k X.A
  fns : ∀ f ps ords, c.fns.lookup f = some (ps, ords) → Def X f k ps ords (pdI X.mg C f ps.length) ∧ ∀ xs h, xs.length ≠ ps.length → C f xs h = .bad
  cons : ∀ x v, c.cons.lookup x = some v → Glo X x (.int v)
  bts : ∀ x ∈ c.bts, X.mg x = none
  fn : c.blk = false → (∀ x, X.fn x = true) ∧ c.vs = []
section
variable {X : Cx} {c : Cc} {C : Str → List Vl → Mm → R Vl} {k : Nat}
theorem Ctx.un (x : Ctx X c C k) : X.A.units + 64 < cLine := by have := x.room.un; omega
theorem idx_at {x : Str} : ∀ {N : List Str} {i : Nat}, idxOf x N = some i → N[i]? = some x
  | [], _, h => by cases h
  | y :: ys, i, h => by
    unfold idxOf at h
    split at h
    · rename_i e; cases h; simp [e]
    · obtain ⟨j, h1, h2⟩ := Option.map_eq_some_iff.mp h
      subst h2
      simpa using idx_at h1
theorem isVis_vis {sc : Scope} {x : Str} (h : isVis (sc.names.lookup x) = true) : Vis sc x := by
  unfold isVis at h
  split at h
  · rename_i e; exact .inl e
  · rename_i e; exact .inr (.inl e)
  · rename_i e; exact .inr (.inr e)
  · cases h
theorem isLoc_loc {sc : Scope} {x : Str} (h : isLoc (sc.names.lookup x) = true) : L2.Loc sc x := by
  unfold isLoc at h
  split at h
  · rename_i e; exact .inl e
  · rename_i e; exact .inr e
  · cases h
theorem gl_of (x : Ctx X c C k) {n : Str} (h : isGl c n = true) : Gl X n ∧ (n == ("__debug__" : Str)) = false := by
  unfold isGl at h
  simp only [Bool.and_eq_true, decide_eq_true_eq, Bool.not_eq_true'] at h
  exact ⟨by unfold Gl Env.kindOf; rw [x.sc]; exact h.1, h.2⟩
theorem slotR_of (x : Ctx X c C k) {n : Str} {i : Nat} (h : slotR c n = some i) : Nm X i n ∧ Vis X.env.scope n ∧ (n == ("__debug__" : Str)) = false ∧ (n == ("__classdict__" : Str)) = false := by
  unfold slotR at h
  split at h
  · rename_i e
    simp only [Bool.and_eq_true, Bool.not_eq_true'] at e
    exact ⟨by unfold Nm; rw [x.hN]; exact idx_at h, by rw [x.sc]; exact isVis_vis e.1.1, e.1.2, e.2⟩
  · cases h
theorem slotW_of (x : Ctx X c C k) {n : Str} {i : Nat} (h : slotW c n = some i) : X.N[i]? = some n ∧ L2.Loc X.env.scope n ∧ (X.fn n = true ∨ X.env.scope.names.lookup n = some .local) ∧ ((c.blk = false ∧ c.vs = []) ∨ i ∈ c.vs) ∧ (n == ("__debug__" : Str)) = false ∧ (n == ("__classdict__" : Str)) = false := by
  unfold slotW at h
  split at h
  · rename_i e
    simp only [Bool.and_eq_true, Bool.not_eq_true'] at e
    split at h
    · rename_i hb
      split at h
      · rename_i hl
        rw [decide_eq_true_eq] at hl
        split at h
        · rename_i j hj
          split at h
          · rename_i hv
            cases h
            exact ⟨by rw [x.hN]; exact idx_at hj, .inl (by rw [x.sc]; exact hl), .inr (by rw [x.sc]; exact hl), .inr (by simpa using hv), e.1, e.2⟩
          · cases h
        · cases h
      · cases h
    · rename_i hb
      have hb : c.blk = false := by simpa using hb
      split at h
      · rename_i hl
        have f := x.fn hb
        exact ⟨by rw [x.hN]; exact idx_at h, by rw [x.sc]; exact isLoc_loc hl, .inl (f.1 n), .inl ⟨hb, f.2⟩, e.1, e.2⟩
      · cases h
  · cases h
theorem Ctx.block (x : Ctx X c C k) (scope : Scope) : AllB X scope fun X1 => Ctx X1 (blkOf c scope) C k := fun s H Cc cl fp =>
  ⟨x.hN, by show relS scope X.env.scope = relS scope c.sc; rw [x.sc], x.nd, x.calm, x.gu, x.room, fun f ps ords e => ⟨bDef (x.fns f ps ords e).1, (x.fns f ps ords e).2⟩, fun n v e => bGlo (x.cons n v e), x.bts, fun e => by cases e⟩
/-! ## what is shown of each expression -/
abbrev XI (ρ : List Rv) (Ξ : Xi) : EV → Mem → Prop := fun x M' => Ξ x ρ M'
def SoE (X : Cx) (C : Str → List Vl → Mm → R Vl) (e : Expr) (v : E) : Prop :=
  ∀ as h ρE ρ M (Φ : Pst) (Ξ : Xi), ERel as ρE ρ → MOk as h M → Post X.mg as (ev C v ρE h) Φ (XI ρ Ξ) → GE X e ρ M Φ Ξ
def SoT (X : Cx) (C : Str → List Vl → Mm → R Vl) (e : Expr) (v : E) : Prop :=
  ∀ as h ρE ρ M (Ψ : Bool → Mem → Prop) (Ξ : Xi), ERel as ρE ρ → MOk as h M → PV X.mg as (tv C v ρE h) (QT Ψ) (XI ρ Ξ) → GT X e ρ M Ψ Ξ
def QI (Θ : List Rv → (Mem → Prop) → Mem → Prop) : List Addr → (List Vl × Watch) → Mm → Prop := fun as' p h' =>
  ∀ rs S M', RelL as' p.1 rs → MOk as' h' M' → (∀ as2 h2 M2, as' <+: as2 → MOk as2 h2 M2 → Still p.2 h2 → S M2) → Θ rs S M'
def SoI (X : Cx) (C : Str → List Vl → Mm → R Vl) (tg e : Expr) (v : E) : Prop :=
  ∀ as h ρE ρ M (Θ : List Rv → (Mem → Prop) → Mem → Prop) (Ξ : Xi), ERel as ρE ρ → MOk as h M → PV X.mg as (evIt C v ρE h) (QI Θ) (XI ρ Ξ) → GIW X tg e ρ M Θ Ξ
theorem ge_bad {e : Expr} {ρ : List Rv} {M : Mem} {Φ : Pst} {Ξ : Xi} (h : False) : GE X e ρ M Φ Ξ := h.elim
theorem so_stop {e : Expr} : SoE X C e .stop := fun _ _ _ _ _ _ _ _ _ p => p.elim
theorem so_stopT {e : Expr} : SoT X C e .stop := fun _ _ _ _ _ _ _ _ _ p => p.elim
theorem so_stopI {tg e : Expr} : SoI X C tg e .stop := fun _ _ _ _ _ _ _ _ _ p => p.elim
/-! truth -/
theorem gt_truR {e : Expr} {ρ : List Rv} {M : Mem} {Ψ : Bool → Mem → Prop} {Ξ : Xi} (hw : plainT e = true) (ha : GE X e ρ M (fun r M1 => ∃ as h x b, Rel as x r ∧ MOk as h M1 ∧ truth h x = some b ∧ Ψ b M1) Ξ) : GT X e ρ M Ψ Ξ :=
  fun B H σ ok env tk => tS_of (pt_truth pe_S (true_plain hw)) (one ha ok env tk fun v H1 B1 M1 r o1 f1 q1 ⟨as, h, x, b, rx, m, t, q⟩ => by
    refine ⟨b, ?_, B1, M1, o1, f1, q⟩
    cases rx with
    | bl => simp [truth] at t; subst t; rw [bool_of q1]; rfl
    | non => simp [truth] at t; subst t; rw [non_of q1]; rfl
    | tup a =>
      simp [truth] at t
      cases q1 with
      | tup h1 h2 =>
        refine .inr (.inl ⟨_, sq_mono o1.ext h1, ?_⟩)
        rw [isEmpty_len h2.length, ← isEmpty_len a.len, t, Bool.not_not]
    | cell e =>
      simp only [truth] at t
      obtain ⟨xs, h1, h2⟩ := Option.map_eq_some_iff.mp t
      obtain ⟨a, vs, rs, e1, s1, t1, u1⟩ := sqv o1 m (x := .cell _) h1 (.cell e) q1
      cases e1
      exact .inl ⟨_, s1, by rw [isEmpty_len t1.length, ← isEmpty_len u1.len, h2]⟩
    | int =>
      simp only [truth, Option.some.injEq] at t
      rw [int_of q1, ← t]
      show decide (_ ≠ (0 : Int)) = (_ != 0)
      rw [Bool.eq_iff_iff]; simp
    | str => cases t
    | lst pu =>
      simp [truth] at t
      cases q1 with
      | d q1 => cases q1 with
        | lst s1 t1 =>
          refine .inl ⟨_, o1.ext.seq s1, ?_⟩
          rw [isEmpty_len (DpAll.len t1), ← isEmpty_len pu.len, t, Bool.not_not]
    | frz => cases t)
theorem so_tru {e : Expr} {v : E} (hw : plainT e = true) (he : SoE X C e v) : SoT X C e (.tru v) := fun as h ρE ρ M Ψ Ξ er m p => by
  refine gt_truR hw (he as h ρE ρ M _ Ξ er m ?_)
  rw [tv] at p
  refine (pv_bind p).imp fun as' x h' pre q r M' rx m' => ?_
  simp only [boolOf] at q
  split at q
  · rename_i b hb
    exact ⟨as', h', x, b, rx, m', hb, q as' List.prefix_rfl M' m'⟩
  · exact q.elim
/-! walks -/
theorem still_one {as : List Addr} {h : Mm} {x : Vl} {r : Rv} {xs : List Vl} {rs : List Rv} (hs : seqOf h x = some xs) (rx : Rel as x r) (rl : RelL as xs rs) :
    ∀ as2 h2 M2, as <+: as2 → MOk as2 h2 M2 → Still (watch h x) h2 → Lst r rs M2 := fun as2 h2 M2 pre m st => by
  cases rx with
  | cell e =>
    have hx : h[_]? = some xs := hs
    simp only [watch, hx] at st
    have := st _ (List.mem_singleton.mpr rfl)
    obtain ⟨rs', r1, hm⟩ := m.get (pre_get pre e) this
    cases r1.inj (rl.mono pre)
    exact .inl ⟨_, rfl, hm⟩
  | frz ns =>
    have e3 : xs = ns.map .int := by simp only [seqOf] at hs; exact (Option.some.inj hs).symm
    subst e3
    refine .inr ⟨_, rfl, ?_⟩
    cases rl.inj (RelL.ints ns)
    intro K B vs q
    have := RvAll.ofData q
    rwa [List.map_map] at this
  | lst pu =>
    simp only [seqOf, Option.some.injEq] at hs
    subst hs
    obtain ⟨rs', h1, h2⟩ := pu.up as
    cases rl.inj h1
    exact .inr ⟨_, rfl, h2⟩
  | non => cases hs
  | bl => cases hs
  | int => cases hs
  | str => cases hs
  | tup => cases hs
theorem still_now {h : Mm} {x : Vl} {xs : List Vl} (hs : seqOf h x = some xs) : Still (watch h x) h := by
  intro p hp
  cases x with
  | cell n =>
    have hx : h[n]? = some xs := hs
    simp only [watch, hx, List.mem_singleton] at hp
    subst hp; exact hx
  | _ => simp [watch] at hp
theorem rel_of {as : List Addr} {h : Mm} {M : Mem} {x : Vl} {r : Rv} {xs : List Vl} (m : MOk as h M) (hs : seqOf h x = some xs) (rx : Rel as x r) : ∃ rs, RelL as xs rs := by
  cases rx with
  | cell e => obtain ⟨rs, r1, _⟩ := m.get e hs; exact ⟨rs, r1⟩
  | frz ns =>
    have e3 : xs = ns.map .int := by simp only [seqOf] at hs; exact (Option.some.inj hs).symm
    subst e3
    exact ⟨_, RelL.ints ns⟩
  | lst pu =>
    simp only [seqOf, Option.some.injEq] at hs
    subst hs
    obtain ⟨rs', h1, h2⟩ := pu.up as
    exact ⟨_, h1⟩
  | non => cases hs
  | bl => cases hs
  | int => cases hs
  | str => cases hs
  | tup => cases hs
theorem so_over {tg e : Expr} {v : E} (he : SoE X C e v) : SoI X C tg e (.over v) := fun as h ρE ρ M Θ Ξ er m p => by
  rw [evIt] at p
  have p := pv_bind p
  cases hv : ev C v ρE h with
  | bad => rw [hv] at p; exact p.elim
  | err x h' =>
    refine gi_overL (he as h ρE ρ M _ Ξ er m ?_)
    rw [hv] at p ⊢; exact p
  | ok x h' =>
    have hp := p
    rw [hv] at hp
    have hp := hp as List.prefix_rfl
    dsimp only at hp
    cases hi : itV h' x with
    | none => rw [hi] at hp; exact hp.elim
    | some w =>
      cases x with
      | tup xs =>
        refine gi_overT (he as h ρE ρ M _ Ξ er m ?_)
        rw [hv] at p ⊢
        intro as' pre r M' rx m'
        cases rx with
        | tup a => exact ⟨_, rfl, p as' pre as' List.prefix_rfl _ _ M' a m' fun _ _ _ _ _ _ => trivial⟩
      | _ =>
        refine gi_overL (he as h ρE ρ M _ Ξ er m ?_)
        rw [hv] at p ⊢
        intro as' pre r M' rx m'
        have q := p as' pre
        simp only [itV] at q hi
        split at q
        · rename_i w' hw'
          split at hw'
          · rename_i xs hs
            cases hw'
            obtain ⟨rs, rl⟩ := rel_of m' hs rx
            exact ⟨rs, still_one hs rx rl as' h' M' List.prefix_rfl m' (still_now hs), q as' List.prefix_rfl rs _ M' rl m' (still_one hs rx rl)⟩
          · cases hw'
        · exact q.elim
end
end IR

set_option Elab.async false
set_option linter.all false
set_option maxRecDepth 100000
set_option maxHeartbeats 4000000
namespace IR
open PySem PySem.Spec PyProof.Rows L2 Dl
section
variable {X : Cx} {c : Cc} {C : Str → List Vl → Mm → R Vl} {k : Nat}
theorem so_int {i : Int} {j : Nat} {pos : Pos} : SoE X C (.Constant (.int i) j pos) (.int i) := fun as h ρE ρ M Φ Ξ er m p => by rw [ev] at p; exact ge_int (post_val p m (.int _))
theorem so_bl {i : Bool} {j : Nat} {pos : Pos} : SoE X C (.Constant (.bool i) j pos) (.bl i) := fun as h ρE ρ M Φ Ξ er m p => by rw [ev] at p; exact ge_bl (post_val p m (.bl _))
theorem so_non {j : Nat} {pos : Pos} : SoE X C (.Constant .none j pos) .non := fun as h ρE ρ M Φ Ξ er m p => by rw [ev] at p; exact ge_non (post_val p m .non)
theorem so_str {i : Str} {j : Nat} {pos : Pos} : SoE X C (.Constant (.str i) j pos) (.str i) := fun as h ρE ρ M Φ Ξ er m p => by rw [ev] at p; exact ge_str (post_val p m (.str _))
theorem so_name (x : Ctx X c C k) {n : Str} {pos : Pos} : SoE X C (.Name n pos) (nameC c n) := by
  unfold nameC
  split
  · rename_i i hi
    intro as h ρE ρ M Φ Ξ er m p
    obtain ⟨h1, h2, h3, h4⟩ := slotR_of x hi
    rw [ev] at p
    split at p
    · rename_i v hv
      obtain ⟨q, e, rq⟩ := er.get i hv
      exact ge_nameC h1 h2 e rq.notAny (post_val p m rq) h3 h4
    · exact p.elim
  · split
    · rename_i hg
      split
      · rename_i v hv
        intro as h ρE ρ M Φ Ξ er m p
        rw [ev] at p
        exact ge_gint (x.cons _ _ hv) (gl_of x hg).1 (post_val p m (.int _))
      · exact so_stop
    · exact so_stop
theorem so_bin (x : Ctx X c C k) {a b : Expr} {o : Op} {pos : Pos} {va vb : E} (ha : SoE X C a va) (hb : SoE X C b vb) : SoE X C (.BinOp a (opv o) b pos) (.bin o va vb) := fun as h ρE ρ M Φ Ξ er m p => by
  rw [ev] at p
  refine ge_bin (ha as h ρE ρ M _ Ξ er m ((pv_bind p).imp fun as1 u h1 pre q r M1 r1 m1 => ?_))
  refine hb as1 h1 ρE ρ M1 _ Ξ (er.mono pre) m1 ((pv_bind q).imp fun as2 w h2 pre2 q2 r2 M2 rr2 m2 => ?_)
  exact bin_ok q2 m2 (r1.mono pre2) rr2
theorem so_cmp (x : Ctx X c C k) {a b : Expr} {o : Cp} {pos : Pos} {va vb : E} (hs : notSet b = true) (ha : SoE X C a va) (hb : SoE X C b vb) : SoE X C (.Compare a [cpv o] [b] pos) (.cmp o va vb) := fun as h ρE ρ M Φ Ξ er m p => by
  rw [ev] at p
  refine ge_cmp (marks_no hs) (ha as h ρE ρ M _ Ξ er m ((pv_bind p).imp fun as1 u h1 pre q r M1 r1 m1 => ?_))
  refine hb as1 h1 ρE ρ M1 _ Ξ (er.mono pre) m1 ((pv_bind q).imp fun as2 w h2 pre2 q2 r2 M2 rr2 m2 => ?_)
  exact cmp_ok q2 x.un m2 (r1.mono pre2) rr2
/-- what a comparison hands on: a bool -/
theorem cmp_bool {mg : Mg} {o : Cp} {x y : Vl} {h : Mm} {as : List Addr} {Q : List Addr → Vl → Mm → Prop} {Ξ : EV → Mem → Prop} (p : PV mg as (cmpV o x y h) Q Ξ) : ∃ b, cmpV o x y h = .ok (.bl b) h ∧ ∀ as', as <+: as' → Q as' (.bl b) h := by
  cases e : cmpV o x y h with
  | bad => rw [e] at p; exact p.elim
  | err z h' => cases o <;> simp only [cmpV] at e <;> split at e <;> cases e
  | ok v h' =>
    rw [e] at p
    have : ∃ b, v = .bl b ∧ h' = h := by
      cases o <;> simp only [cmpV] at e <;> split at e <;> cases e <;> exact ⟨_, rfl, rfl⟩
    obtain ⟨b, rfl, rfl⟩ := this
    exact ⟨b, rfl, p⟩
theorem so_cmpT (x : Ctx X c C k) {a b : Expr} {o : Cp} {pos : Pos} {va vb : E} (hs : notSet b = true) (ha : SoE X C a va) (hb : SoE X C b vb) : SoT X C (.Compare a [cpv o] [b] pos) (.tru (.cmp o va vb)) := fun as h ρE ρ M Ψ Ξ er m p => by
  rw [tv, ev] at p
  refine gt_cmp (marks_no hs) (ha as h ρE ρ M _ Ξ er m ((pv_bind (pv_bind p |> fun z => (show PV X.mg as (((ev C va ρE h).bind fun x h1 => (ev C vb ρE h1).bind fun y h2 => cmpV o x y h2)) _ (XI ρ Ξ) from z))).imp fun as1 u h1 pre q r M1 r1 m1 => ?_))
  refine hb as1 h1 ρE ρ M1 _ Ξ (er.mono pre) m1 ((pv_bind q).imp fun as2 w h2 pre2 q2 r2 M2 rr2 m2 => ?_)
  obtain ⟨b, e, q3⟩ := cmp_bool q2
  refine cmp_ok (mg := X.mg) (ξ := fun _ _ => True) (Φ := fun r M3 => ∃ c, r = .d (.bool c) ∧ Ψ c M3) ?_ x.un m2 (r1.mono pre2) rr2
  rw [e]
  intro as3 pre3 r3 M3 rr3 m3
  cases rr3
  have := q3 as3 pre3
  exact ⟨b, rfl, this as3 List.prefix_rfl M3 m3⟩
theorem so_chain (x : Ctx X c C k) {a b d : Expr} {o o' : Cp} {pos : Pos} {va vb vd : E} (hs : notSet d = true) (ha : SoE X C a va) (hb : SoE X C b vb) (hd : SoE X C d vd) : SoE X C (.Compare a [cpv o, cpv o'] [b, d] pos) (.chain o o' va vb vd) := fun as h ρE ρ M Φ Ξ er m p => by
  rw [ev] at p
  refine ge_chain (marks_no hs) (ha as h ρE ρ M _ Ξ er m ((pv_bind p).imp fun as1 u h1 pre q r M1 r1 m1 => ?_))
  refine hb as1 h1 ρE ρ M1 _ Ξ (er.mono pre) m1 ((pv_bind q).imp fun as2 w h2 pre2 q2 r2 M2 rr2 m2 => ?_)
  obtain ⟨b, e, q3⟩ := cmp_bool (pv_bind q2)
  refine cmp_ok (mg := X.mg) (ξ := fun _ _ => True) ?_ x.un m2 (r1.mono pre2) rr2
  rw [e]
  intro as3 pre3 r3 M3 rr3 m3
  cases rr3
  have q3 := q3 as3 pre3
  refine ⟨b, rfl, fun hb => ?_, fun hb => ?_⟩
  · subst hb
    refine hd as3 h2 ρE ρ M3 _ Ξ (er.mono (pre.trans (pre2.trans pre3))) m3 ((pv_bind q3).imp fun as4 z h4 pre4 q4 r4 M4 rr4 m4 => ?_)
    exact cmp_ok q4 x.un m4 (rr2.mono (pre3.trans pre4)) rr4
  · subst hb
    exact post_val q3 m3 (.bl _)
theorem so_chainT (x : Ctx X c C k) {a b d : Expr} {o o' : Cp} {pos : Pos} {va vb vd : E} (hs : notSet d = true) (ha : SoE X C a va) (hb : SoE X C b vb) (hd : SoE X C d vd) : SoT X C (.Compare a [cpv o, cpv o'] [b, d] pos) (.tru (.chain o o' va vb vd)) := fun as h ρE ρ M Ψ Ξ er m p => by
  rw [tv, ev] at p
  have p := pv_bind p
  refine gt_chain (marks_no hs) (ha as h ρE ρ M _ Ξ er m ((pv_bind p).imp fun as1 u h1 pre q r M1 r1 m1 => ?_))
  refine hb as1 h1 ρE ρ M1 _ Ξ (er.mono pre) m1 ((pv_bind q).imp fun as2 w h2 pre2 q2 r2 M2 rr2 m2 => ?_)
  obtain ⟨b, e, q3⟩ := cmp_bool (pv_bind q2)
  refine cmp_ok (mg := X.mg) (ξ := fun _ _ => True) (Φ := fun r M3 => ∃ kk, r = .d (.bool kk) ∧ _) ?_ x.un m2 (r1.mono pre2) rr2
  rw [e]
  intro as3 pre3 r3 M3 rr3 m3
  cases rr3
  have q3 := q3 as3 pre3
  refine ⟨b, rfl, fun hb => ?_, fun hb => ?_⟩
  · subst hb
    refine hd as3 h2 ρE ρ M3 _ Ξ (er.mono (pre.trans (pre2.trans pre3))) m3 ((pv_bind q3).imp fun as4 z h4 pre4 q4 r4 M4 rr4 m4 => ?_)
    obtain ⟨b, e, q5⟩ := cmp_bool q4
    refine cmp_ok (mg := X.mg) (ξ := fun _ _ => True) (Φ := fun r M3 => ∃ c, r = .d (.bool c) ∧ Ψ c M3) ?_ x.un m4 (rr2.mono (pre3.trans pre4)) rr4
    rw [e]
    intro as6 pre6 r6 M6 rr6 m6
    cases rr6
    have := q5 as6 pre6
    exact ⟨b, rfl, this as6 List.prefix_rfl M6 m6⟩
  · subst hb
    have := q3 as3 List.prefix_rfl
    exact this as3 List.prefix_rfl M3 m3
theorem so_notT {a : Expr} {pos : Pos} {va : E} (ha : SoT X C a va) : SoT X C (.UnaryOp .Not a pos) (.not va) := fun as h ρE ρ M Ψ Ξ er m p => by
  rw [tv] at p
  exact gt_not (ha as h ρE ρ M _ Ξ er m ((pv_bind p).imp fun as1 b h1 pre q M1 m1 => q as1 List.prefix_rfl M1 m1))
theorem so_not {a : Expr} {pos : Pos} {va : E} (ha : SoE X C a va) : SoE X C (.UnaryOp .Not a pos) (.not va) := fun as h ρE ρ M Φ Ξ er m p => by
  rw [ev] at p
  refine ge_not (ha as h ρE ρ M _ Ξ er m ((pv_bind p).imp fun as1 u h1 pre q r M1 r1 m1 => ?_))
  cases r1 with
  | bl b => exact ⟨b, rfl, post_val q m1 (.bl _)⟩
  | _ => exact q.elim
theorem so_neg {a : Expr} {pos : Pos} {va : E} (ha : SoE X C a va) : SoE X C (.UnaryOp .USub a pos) (.neg va) := fun as h ρE ρ M Φ Ξ er m p => by
  rw [ev] at p
  refine ge_neg (ha as h ρE ρ M _ Ξ er m ((pv_bind p).imp fun as1 u h1 pre q r M1 r1 m1 => ?_))
  cases r1 with
  | int b => exact ⟨b, rfl, post_val q m1 (.int _)⟩
  | _ => exact q.elim
theorem so_ite {t a b : Expr} {pos : Pos} {vt va vb : E} (ht : SoT X C t vt) (ha : SoE X C a va) (hb : SoE X C b vb) : SoE X C (.IfExp t a b pos) (.ite vt va vb) := fun as h ρE ρ M Φ Ξ er m p => by
  rw [ev] at p
  refine ge_if (ht as h ρE ρ M _ Ξ er m ((pv_bind p).imp fun as1 u h1 pre q M1 m1 => ⟨fun e => ?_, fun e => ?_⟩))
  · subst e; exact ha as1 h1 ρE ρ M1 Φ Ξ (er.mono pre) m1 q
  · subst e; exact hb as1 h1 ρE ρ M1 Φ Ξ (er.mono pre) m1 q
/-! and, or -/
theorem so_and (x : Ctx X c C k) {pos : Pos} : ∀ (es : List Expr), (∀ e ∈ es, SoE X C e (cE c e).v) → SoE X C (.BoolOp .And es pos) (cAnd c es)
  | [], _ => by rw [cAnd]; exact so_stop
  | [a], h => by rw [cAnd]; exact fun as h' ρE ρ M Φ Ξ er m p => ge_one (h a (by simp) as h' ρE ρ M Φ Ξ er m p)
  | a :: b :: es, h => by
    rw [cAnd]
    intro as h' ρE ρ M Φ Ξ er m p
    rw [ev] at p
    refine ge_and (h a (by simp) as h' ρE ρ M _ Ξ er m ((pv_bind p).imp fun as1 u h1 pre q r M1 r1 m1 => ?_))
    cases r1 with
    | bl b =>
      refine ⟨b, rfl, fun e => ?_, fun e => ?_⟩
      · subst e; exact so_and x (b :: es) (fun e he => h e (List.mem_cons_of_mem _ he)) as1 h1 ρE ρ M1 Φ Ξ (er.mono pre) m1 q
      · subst e; exact post_val q m1 (.bl _)
    | _ => exact q.elim
theorem so_or (x : Ctx X c C k) {pos : Pos} : ∀ (es : List Expr), (∀ e ∈ es, SoE X C e (cE c e).v) → SoE X C (.BoolOp .Or es pos) (cOr c es)
  | [], _ => by rw [cOr]; exact so_stop
  | [a], h => by rw [cOr]; exact fun as h' ρE ρ M Φ Ξ er m p => ge_one (h a (by simp) as h' ρE ρ M Φ Ξ er m p)
  | a :: b :: es, h => by
    rw [cOr]
    intro as h' ρE ρ M Φ Ξ er m p
    rw [ev] at p
    refine ge_or (h a (by simp) as h' ρE ρ M _ Ξ er m ((pv_bind p).imp fun as1 u h1 pre q r M1 r1 m1 => ?_))
    cases r1 with
    | bl b =>
      refine ⟨b, rfl, fun e => ?_, fun e => ?_⟩
      · subst e; exact so_or x (b :: es) (fun e he => h e (List.mem_cons_of_mem _ he)) as1 h1 ρE ρ M1 Φ Ξ (er.mono pre) m1 q
      · subst e; exact post_val q m1 (.bl _)
    | _ => exact q.elim
def SoW (X : Cx) (C : Str → List Vl → Mm → R Vl) (e : Expr) (v : E) : Prop :=
  ∀ as h ρE ρ M (Ψ : Bool → Mem → Prop) (Ξ : Xi), ERel as ρE ρ → MOk as h M → PV X.mg as (tv C v ρE h) (QT Ψ) (XI ρ Ξ) → GW X e ρ M Ψ Ξ
theorem so_andW (x : Ctx X c C k) {pos : Pos} : ∀ (es : List Expr), (∀ e ∈ es, SoT X C e (cE c e).t) → SoW X C (.BoolOp .And es pos) (cAndT c es)
  | [], _ => by rw [cAndT]; exact fun _ _ _ _ _ _ _ _ _ p => p.elim
  | [a], h => by rw [cAndT]; exact fun as h' ρE ρ M Φ Ξ er m p => gw_and1 (h a (by simp) as h' ρE ρ M Φ Ξ er m p)
  | a :: b :: es, h => by
    rw [cAndT]
    intro as h' ρE ρ M Φ Ξ er m p
    rw [tv] at p
    refine gw_and (h a (by simp) as h' ρE ρ M _ Ξ er m ((pv_bind p).imp fun as1 u h1 pre q M1 m1 => ⟨fun e => ?_, fun e => ?_⟩))
    · subst e; exact so_andW x (b :: es) (fun e he => h e (List.mem_cons_of_mem _ he)) as1 h1 ρE ρ M1 Φ Ξ (er.mono pre) m1 q
    · subst e; exact q as1 List.prefix_rfl M1 m1
theorem so_orW (x : Ctx X c C k) {pos : Pos} : ∀ (es : List Expr), (∀ e ∈ es, SoT X C e (cE c e).t) → SoW X C (.BoolOp .Or es pos) (cOrT c es)
  | [], _ => by rw [cOrT]; exact fun _ _ _ _ _ _ _ _ _ p => p.elim
  | [a], h => by rw [cOrT]; exact fun as h' ρE ρ M Φ Ξ er m p => gw_or1 (h a (by simp) as h' ρE ρ M Φ Ξ er m p)
  | a :: b :: es, h => by
    rw [cOrT]
    intro as h' ρE ρ M Φ Ξ er m p
    rw [tv] at p
    refine gw_or (h a (by simp) as h' ρE ρ M _ Ξ er m ((pv_bind p).imp fun as1 u h1 pre q M1 m1 => ⟨fun e => ?_, fun e => ?_⟩))
    · subst e; exact so_orW x (b :: es) (fun e he => h e (List.mem_cons_of_mem _ he)) as1 h1 ρE ρ M1 Φ Ξ (er.mono pre) m1 q
    · subst e; exact q as1 List.prefix_rfl M1 m1
/-! lists of arguments -/
theorem so_args (x : Ctx X c C k) : ∀ (es : List Expr), es.all notStar = true → (∀ e ∈ es, SoE X C e (cE c e).v) → ∀ as h ρE ρ M (Ψ : List Rv → Mem → Prop) (Ξ : Xi), ERel as ρE ρ → MOk as h M → PV X.mg as (evs C (cEs c es) ρE h) (QL Ψ) (XI ρ Ξ) → GA X es ρ M Ψ Ξ
  | [], _, _, as, h, ρE, ρ, M, Ψ, Ξ, er, m, p => by rw [cEs, evs] at p; exact ga_nil (p as List.prefix_rfl [] M .nil m)
  | e :: es, hn, hs, as, h, ρE, ρ, M, Ψ, Ξ, er, m, p => by
    rw [List.all_cons, Bool.and_eq_true] at hn
    rw [cEs, evs] at p
    refine ga_cons (star_cons hn.1) (hs e (by simp) as h ρE ρ M _ Ξ er m ((pv_bind p).imp fun as1 u h1 pre q r M1 r1 m1 => ?_))
    refine so_args x es hn.2 (fun e he => hs e (List.mem_cons_of_mem _ he)) as1 h1 ρE ρ M1 _ Ξ (er.mono pre) m1 ((pv_bind q).imp fun as2 us h2 pre2 q2 rs M2 rl m2 => ?_)
    exact q2 as2 List.prefix_rfl _ M2 (.cons (r1.mono pre2) rl) m2
theorem so_tup (x : Ctx X c C k) {es : List Expr} {kk : Nat} {pos : Pos} (hn : es.all notStar = true) (hs : ∀ e ∈ es, SoE X C e (cE c e).v) : SoE X C (.Tuple es kk pos) (.tup (cEs c es)) := fun as h ρE ρ M Φ Ξ er m p => by
  rw [ev] at p
  refine ge_tupR (so_args x es hn hs as h ρE ρ M _ Ξ er m ((pv_bind p).imp fun as1 us h1 pre q rs M1 rl m1 => ?_))
  split at q
  · rename_i hz; exact ⟨by rw [← rl.len]; exact hz, post_val q m1 (.tup rl)⟩
  · exact q.elim
theorem so_lst (x : Ctx X c C k) {es : List Expr} {pos : Pos} (hn : es.all notStar = true) (hs : ∀ e ∈ es, SoE X C e (cE c e).v) : SoE X C (.List es pos) (.lst (cEs c es)) := fun as h ρE ρ M Φ Ξ er m p => by
  rw [ev] at p
  refine ge_own (so_args x es hn hs as h ρE ρ M _ Ξ er m ((pv_bind p).imp fun as1 us h1 pre q rs M1 rl m1 => ?_))
  split at q
  · rename_i hz; exact ⟨by rw [← rl.len]; exact hz, post_new q m1 rl⟩
  · exact q.elim
theorem so_ix {a b : Expr} {pos : Pos} {va vb : E} (hb1 : notSlice b = true) (ha : SoE X C a va) (hb : SoE X C b vb) : SoE X C (.Subscript a b pos) (.ix va vb) := fun as h ρE ρ M Φ Ξ er m p => by
  rw [ev] at p
  refine ge_ix (plainIx hb1) (ha as h ρE ρ M _ Ξ er m ((pv_bind p).imp fun as1 u h1 pre q r M1 r1 m1 => ?_))
  refine hb as1 h1 ρE ρ M1 _ Ξ (er.mono pre) m1 ((pv_bind q).imp fun as2 w h2 pre2 q2 r2 M2 rr2 m2 => ?_)
  exact ix_ok q2 m2 (r1.mono pre2) rr2
/-! slices -/
theorem rvAll_cut {K : Frg} {B : Hp} {xs : List V} {rs : List Rv} (h : RvAll K B xs rs) (a n : Nat) : RvAll K B ((xs.drop a).take n) ((rs.drop a).take n) := by
  have hd : ∀ (a : Nat) {xs : List V} {ds : List Rv}, RvAll K B xs ds → RvAll K B (xs.drop a) (ds.drop a) := by
    intro a
    induction a with
    | zero => intro xs ds h; exact h
    | succ a ih => intro xs ds h; cases h with
      | nil => exact .nil
      | cons _ t => exact ih t
  have ht : ∀ (n : Nat) {xs : List V} {ds : List Rv}, RvAll K B xs ds → RvAll K B (xs.take n) (ds.take n) := by
    intro n
    induction n with
    | zero => intro xs ds h; exact .nil
    | succ n ih => intro xs ds h; cases h with
      | nil => exact .nil
      | cons h t => exact .cons h (ih t)
  exact ht n (hd a h)
theorem ge_sliceW {e : Expr} {lo hi : Option Expr} {pos p2 : Pos} {ρ : List Rv} {M : Mem} {Φ : Pst} {Ξ : Xi} (h : GE X e ρ M (fun x M1 => GO X lo ρ M1 (fun l M2 => GO X hi ρ M2 (fun u M3 => ∃ rs, Lst x rs M3 ∧ ∀ p, Φ (.cell p) ((p, Is (Dl.cutD rs l u)) :: M3)) Ξ) Ξ) Ξ) : GE X (.Subscript e (.Slice lo hi none p2) pos) ρ M Φ Ξ := fun B H σ ok env tk =>
  eS_of (pe_slice sl_list pe_S po_S po_S) (one h ok env tk fun v H1 B1 M1 r o1 f1 q1 hb => pS_mono (hb B1 H1 σ o1 (env_mono f1.ex env) (tk_after tk f1)) fun l H2 ⟨B2, M2, o2, f2, hc⟩ =>
    pS_mono (hc B2 H2 σ o2 (env_mono (f1.trans f2).ex env) (tk_after tk (f1.trans f2))) fun u H3 ⟨B3, M3, o3, f3, rs, hl, k⟩ => by
      obtain ⟨a, vs, rfl, s1, t1⟩ := lst_sq o3 (rv_mono (f2.trans f3).ex q1) hl
      refine ⟨a, vs, rfl, s1, fun p hp => postE_after (f1.trans (f2.trans f3)) (post_own (P := Is (Dl.cutD rs l u)) o3 hp ?_ rfl (k p))⟩
      have z := rvAll_cut t1 (HT.sIx vs.length 0 l) (HT.sIx vs.length vs.length u - HT.sIx vs.length 0 l)
      unfold L2.cutV Dl.cutD
      rw [t1.length] at z ⊢
      exact z)
theorem lst_of {as : List Addr} {h : Mm} {M : Mem} {x : Vl} {r : Rv} {xs : List Vl} (m : MOk as h M) (hs : seqOf h x = some xs) (rx : Rel as x r) : ∃ rs, RelL as xs rs ∧ Lst r rs M := by
  obtain ⟨rs, rl⟩ := rel_of m hs rx
  exact ⟨rs, rl, still_one hs rx rl as h M List.prefix_rfl m (still_now hs)⟩
theorem so_opt (x : Ctx X c C k) {o : Option Expr} (hs : ∀ e, o = some e → SoE X C e (cE c e).v) : ∀ as h ρE ρ M (Ψ : Option Int → Mem → Prop) (Ξ : Xi), ERel as ρE ρ → MOk as h M → PV X.mg as (evo C (cO c o) ρE h) (fun as' l h' => ∀ M', MOk as' h' M' → Ψ l M') (XI ρ Ξ) → GO X o ρ M Ψ Ξ := by
  intro as h ρE ρ M Ψ Ξ er m p
  cases o with
  | none => rw [cO, evo] at p; exact go_none (p as List.prefix_rfl M m)
  | some e =>
    rw [cO, evo] at p
    refine go_some (hs e rfl as h ρE ρ M _ Ξ er m ((pv_bind p).imp fun as1 u h1 pre q r M1 r1 m1 => ?_))
    cases r1 with
    | int i => exact ⟨i, rfl, q as1 List.prefix_rfl M1 m1⟩
    | _ => exact q.elim
theorem ge_sliceZ {e : Expr} {lo hi : Option Expr} {pos p2 : Pos} {ρ : List Rv} {M : Mem} {Φ : Pst} {Ξ : Xi} (h : GE X e ρ M (fun x M1 => GO X lo ρ M1 (fun l M2 => GO X hi ρ M2 (fun u M3 => (∃ rs, Lst x rs M3 ∧ ∀ p, Φ (.cell p) ((p, Is (Dl.cutD rs l u)) :: M3)) ∨ ∃ ds, x = .d (.list ds) ∧ Φ (.d (.list (Dl.cutD ds l u))) M3) Ξ) Ξ) Ξ) : GE X (.Subscript e (.Slice lo hi none p2) pos) ρ M Φ Ξ := fun B H σ ok env tk =>
  eS_of (pe_slice sl_list pe_S po_S po_S) (one h ok env tk fun v H1 B1 M1 r o1 f1 q1 hb => pS_mono (hb B1 H1 σ o1 (env_mono f1.ex env) (tk_after tk f1)) fun l H2 ⟨B2, M2, o2, f2, hc⟩ =>
    pS_mono (hc B2 H2 σ o2 (env_mono (f1.trans f2).ex env) (tk_after tk (f1.trans f2))) fun u H3 ⟨B3, M3, o3, f3, z⟩ => by
      rcases z with ⟨rs, hl, k⟩ | ⟨ds, e, k⟩
      · obtain ⟨a, vs, rfl, s1, t1⟩ := lst_sq o3 (rv_mono (f2.trans f3).ex q1) hl
        refine ⟨a, vs, rfl, s1, fun p hp => postE_after (f1.trans (f2.trans f3)) (post_own (P := Is (Dl.cutD rs l u)) o3 hp ?_ rfl (k p))⟩
        have z := rvAll_cut t1 (HT.sIx vs.length 0 l) (HT.sIx vs.length vs.length u - HT.sIx vs.length 0 l)
        unfold L2.cutV Dl.cutD
        rw [t1.length] at z ⊢
        exact z
      · subst e
        cases q1 with
        | d q1 => cases q1 with
          | lst hs ha =>
            rename_i a xs
            have f23 := f2.trans f3
            refine ⟨a, xs, rfl, o3.ext.seq (f23.ex.seq hs), fun p hp => postE_after (f1.trans f23) (post_frz o3 hp (.d (.lst (.of upd_same) ?_)) k)⟩
            refine dpAll_mono (f23.ex.trans (same_new (sub_none o3.ext hp))) _ ?_
            have z := cut_dp ha (HT.sIx xs.length 0 l) (HT.sIx xs.length xs.length u - HT.sIx xs.length 0 l)
            unfold cutV Dl.cutD
            rw [DpAll.len ha] at z ⊢
            exact z)
theorem so_slice (x : Ctx X c C k) {a : Expr} {lo hi : Option Expr} {pos p2 : Pos} (ha : SoE X C a (cE c a).v) (h1 : ∀ e, lo = some e → SoE X C e (cE c e).v) (h2 : ∀ e, hi = some e → SoE X C e (cE c e).v) : SoE X C (.Subscript a (.Slice lo hi none p2) pos) (.slice (cE c a).v (cO c lo) (cO c hi)) := fun as h ρE ρ M Φ Ξ er m p => by
  rw [ev] at p
  refine ge_sliceZ (ha as h ρE ρ M _ Ξ er m ((pv_bind p).imp fun as1 u g1 pre q r M1 r1 m1 => ?_))
  refine so_opt x h1 as1 g1 ρE ρ M1 _ Ξ (er.mono pre) m1 ((pv_bind q).imp fun as2 l g2 pre2 q2 M2 m2 => ?_)
  refine so_opt x h2 as2 g2 ρE ρ M2 _ Ξ (er.mono (pre.trans pre2)) m2 ((pv_bind q2).imp fun as3 uu g3 pre3 q3 M3 m3 => ?_)
  simp only [sliceV] at q3
  split at q3
  · cases r1 with
    | lst pu => exact .inr ⟨_, rfl, post_val q3 m3 (.lst (pu.cut l uu))⟩
  · split at q3
    · rename_i xs hx
      obtain ⟨rs, rl, hl⟩ := lst_of m3 hx (r1.mono (pre2.trans pre3))
      exact .inl ⟨rs, hl, post_new q3 m3 (rl.cut l uu)⟩
    · exact q3.elim
/-! freezing -/
open Classical in
/-- what is known for good, when the cells of a memory will not change any more -/
noncomputable def Bz (B H : Hp) (Md : Mem) : Hp := fun a => if (∃ p ∈ Md, p.1 = a) then H a else B a
theorem bz_in {B H : Hp} {Md : Mem} {p : Addr × (List Rv → Prop)} (h : p ∈ Md) : Bz B H Md p.1 = H p.1 := by
  unfold Bz; rw [if_pos ⟨p, h, rfl⟩]
theorem bz_out {B H : Hp} {Md : Mem} {a : Addr} (h : ∀ p ∈ Md, p.1 ≠ a) : Bz B H Md a = B a := by
  unfold Bz; rw [if_neg fun ⟨p, hp, e⟩ => h p hp e]
theorem bz_same {K : Frg} {B H : Hp} {Md Mk : Mem} (ok : Ok K B H (Md ++ Mk)) : Same B (Bz B H Md) := fun a u e => by
  by_cases hc : ∃ p ∈ Md, p.1 = a
  · obtain ⟨p, hp, rfl⟩ := hc
    rw [(ok.mem p (List.mem_append_left _ hp)).1] at e; cases e
  · rw [bz_out fun p hp e2 => hc ⟨p, hp, e2⟩]; exact e
theorem bz_ok {K : Frg} {B H : Hp} {Md Mk : Mem} (ok : Ok K B H (Md ++ Mk)) : Ok K (Bz B H Md) H Mk ∧ Fr B H (Md ++ Mk) (Bz B H Md) H Mk := by
  have nd := ok.nd
  rw [List.map_append] at nd
  have n1 := List.nodup_append.mp nd
  have ne : ∀ q ∈ Mk, ∀ p ∈ Md, p.1 ≠ q.1 := fun q hq p hp e => n1.2.2 p.1 (List.mem_map.mpr ⟨p, hp, rfl⟩) q.1 (List.mem_map.mpr ⟨q, hq, rfl⟩) e
  refine ⟨⟨fun x u e => ?_, fun q hq => ?_, n1.2.1⟩, ⟨bz_same ok, fun x u h b hn => ⟨h, ?_⟩, fun q hq => .inl ⟨q, List.mem_append_right _ hq, rfl⟩, fun x h => h⟩⟩
  · by_cases hc : ∃ p ∈ Md, p.1 = x
    · obtain ⟨p, hp, rfl⟩ := hc
      rw [bz_in hp] at e; exact e
    · rw [bz_out fun p hp e2 => hc ⟨p, hp, e2⟩] at e; exact ok.ext x u e
  · obtain ⟨h1, xs, rs, h2, h3, h4⟩ := ok.mem q (List.mem_append_right _ hq)
    exact ⟨by rw [bz_out (ne q hq)]; exact h1, xs, rs, h2, rvAll_mono (bz_same ok) h3, h4⟩
  · rw [bz_out fun p hp e => hn p (List.mem_append_left _ hp) e]; exact b
/-- what freezes in a memory: the value is this data then -/
def FzOk (M Md : Mem) (r : Rv) (d : PyData) : Prop := ∀ (K : Frg) (B H : Hp) (v : V), Ok K B H M → RvOk K B v r → Dp K (Bz B H Md) v d
def FzOkL (M Md : Mem) (r : List Rv) (d : List PyData) : Prop := ∀ (K : Frg) (B H : Hp) (v : List V), Ok K B H M → RvAll K B v r → DpAll K (Bz B H Md) v d
theorem ge_frz {e : Expr} {ρ : List Rv} {M : Mem} {Φ : Pst} {Ξ : Xi} (h : GE X e ρ M (fun r M1 => ∃ Md Mk d r', M1 = Md ++ Mk ∧ FzOk M1 Md r d ∧ (∀ (K : Frg) (B : Hp) (v : V), Dp K B v d → RvOk K B v r') ∧ Φ r' Mk) Ξ) : GE X e ρ M Φ Ξ := fun B H σ ok env tk =>
  eS_mono (h B H σ ok env tk) fun v H1 ⟨B1, M1, r, o1, f1, q1, Md, Mk, d, r', e1, hf, hu, k⟩ => by
    subst e1
    exact ⟨Bz B1 H1 Md, Mk, r', (bz_ok o1).1, f1.trans (bz_ok o1).2, hu _ _ _ (hf _ _ _ _ o1 q1), k⟩
theorem fzL_ok {as : List Addr} {Md Mk : Mem} {f : Vl → Option Vl} (hf : ∀ {x y : Vl} {r : Rv}, f x = some y → Rel as x r → ∃ d, Pur y d ∧ FzOk (Md ++ Mk) Md r d) : ∀ {xs ys : List Vl} {rs : List Rv}, fzL f xs = some ys → RelL as xs rs → ∃ ds, PurL ys ds ∧ FzOkL (Md ++ Mk) Md rs ds
  | _, _, _, e, .nil => by simp [fzL] at e; subst e; exact ⟨[], .nil, fun K B H v _ q => by cases q; exact .nil⟩
  | x :: xs, _, _, e, .cons a b => by
    simp only [fzL] at e
    split at e
    · rename_i y ys h1 h2
      cases e
      obtain ⟨d, p1, p2⟩ := hf h1 a
      obtain ⟨ds, q1, q2⟩ := fzL_ok hf h2 b
      exact ⟨d :: ds, .cons p1 q1, fun K B H v ok q => by cases q with | cons a b => exact .cons (p2 _ _ _ _ ok a) (q2 _ _ _ _ ok b)⟩
    · cases e
theorem pur_of {M Md Mk : Mem} {x : Vl} {d : PyData} (e : M = Md ++ Mk) (p : Pur x d) : ∃ d', Pur x d' ∧ FzOk M Md (.d d) d' := ⟨d, p, fun K B H v ok q => by
  subst e; cases q with | d q => exact dp_mono (bz_same ok) _ q⟩
mutual
theorem isP_ok {as : List Addr} : ∀ {x : Vl} {r : Rv}, isP x = true → Rel as x r → ∃ d, Pur x d ∧ ∀ (K : Frg) (B : Hp) (v : V), RvOk K B v r → Dp K B v d
  | _, _, _, .non => ⟨_, .non, fun _ _ _ q => by cases q with | d q => exact q⟩
  | _, _, _, .bl b => ⟨_, .bl b, fun _ _ _ q => by cases q with | d q => exact q⟩
  | _, _, _, .int b => ⟨_, .int b, fun _ _ _ q => by cases q with | d q => exact q⟩
  | _, _, _, .str b => ⟨_, .str b, fun _ _ _ q => by cases q with | d q => exact q⟩
  | _, _, _, .frz b => ⟨_, .frz b, fun _ _ _ q => by cases q with | d q => exact q⟩
  | _, _, _, .lst a => ⟨_, .lst a, fun _ _ _ q => by cases q with | d q => exact q⟩
  | _, _, h, .cell a => by simp [isP] at h
  | _, _, h, .tup a => by
    obtain ⟨ds, h1, h2⟩ := isPL_ok (by simpa [isP] using h) a
    exact ⟨_, .tup h1, fun K B v q => by cases q with | tup h a => exact .tup h (h2 K B _ a)⟩
theorem isPL_ok {as : List Addr} : ∀ {x : List Vl} {r : List Rv}, isPL x = true → RelL as x r → ∃ d, PurL x d ∧ ∀ (K : Frg) (B : Hp) (v : List V), RvAll K B v r → DpAll K B v d
  | _, _, _, .nil => ⟨_, .nil, fun _ _ _ q => by cases q; exact .nil⟩
  | _, _, h, .cons a b => by
    simp only [isPL, Bool.and_eq_true] at h
    obtain ⟨d, h1, h2⟩ := isP_ok h.1 a
    obtain ⟨ds, h3, h4⟩ := isPL_ok h.2 b
    exact ⟨_, .cons h1 h3, fun K B v q => by cases q with | cons q t => exact .cons (h2 _ _ _ q) (h4 _ _ _ t)⟩
end
theorem isP_fz {as : List Addr} {M Md Mk : Mem} {x : Vl} {r : Rv} (e0 : M = Md ++ Mk) (hp : isP x = true) (q : Rel as x r) : ∃ d, Pur x d ∧ FzOk M Md r d := by
  obtain ⟨d, h1, h2⟩ := isP_ok hp q
  exact ⟨d, h1, fun K B H v ok q => by subst e0; exact dp_mono (bz_same ok) _ (h2 _ _ _ q)⟩
theorem fz_s {n : Nat} {h : Mm} {k : Nat} {x : Vl} : fz n h (k + 1) x = if isP x = true then some x else match x with
    | .tup xs => (fzL (fz n h k) xs).map .tup
    | .cell c => if n ≤ c then match h[c]? with
      | some xs => (fzL (fz n h k) xs).map .lst
      | none => none
      else none
    | _ => none := rfl
theorem fz_ok {as : List Addr} {h : Mm} {M Md Mk : Mem} {n : Nat} (m : MOk as h M) (e0 : M = Md ++ Mk) (hn : ∀ (c : Nat) (a : Addr), n ≤ c → as[c]? = some a → ∃ p ∈ Md, p.1 = a) : ∀ (k : Nat) {x y : Vl} {r : Rv}, fz n h k x = some y → Rel as x r → ∃ d, Pur y d ∧ FzOk M Md r d := by
  intro k
  induction k with
  | zero =>
    intro x y r e q
    rw [fz] at e
    split at e
    · rename_i hp; cases e; exact isP_fz e0 hp q
    · cases e
  | succ k ih =>
    intro x y r e q
    rw [fz_s] at e
    split at e
    · rename_i hp; cases e; exact isP_fz e0 hp q
    cases q with
    | tup a =>
      dsimp only at e
      obtain ⟨ys, h1, h2⟩ := Option.map_eq_some_iff.mp e
      subst h2 e0
      obtain ⟨ds, p1, p2⟩ := fzL_ok (Md := Md) (Mk := Mk) (fun e q => ih e q) h1 a
      exact ⟨_, .tup p1, fun K B H v ok q => by cases q with | tup h b => exact .tup (sq_mono (bz_same ok) h) (p2 _ _ _ _ ok b)⟩
    | cell ec =>
      rename_i c a _
      dsimp only at e
      split at e
      · rename_i hc
        split at e
        · rename_i xs hx
          obtain ⟨ys, h1, h2⟩ := Option.map_eq_some_iff.mp e
          subst h2 e0
          obtain ⟨rs, r1, hm⟩ := m.get ec hx
          obtain ⟨ds, p1, p2⟩ := fzL_ok (Md := Md) (Mk := Mk) (fun e q => ih e q) h1 r1
          refine ⟨_, .lst p1, fun K B H v ok q => ?_⟩
          cases q
          obtain ⟨_, vs, rs', hH, ha, hP⟩ := ok.mem _ hm.mem
          have e2 : rs' = rs := hP
          subst e2
          obtain ⟨p, hp, ep⟩ := hn c a hc ec
          refine .lst (.of ?_) (p2 _ _ _ _ ok ha)
          rw [← ep, bz_in hp, ep]; exact hH
        · cases e
      · cases e
    | _ => cases e
theorem memOf_split : ∀ {as bs : List Addr} {rs qs : List (List Rv)}, as.length = rs.length → memOf (as ++ bs) (rs ++ qs) = memOf bs qs ++ memOf as rs
  | [], bs, [], qs, _ => by simp [memOf]
  | [], _, _ :: _, _, h => by simp at h
  | _ :: _, _, [], _, h => by simp at h
  | a :: as, bs, r :: rs, qs, h => by
    show memOf (as ++ bs) (rs ++ qs) ++ [(a, Is r)] = memOf bs qs ++ (memOf as rs ++ [(a, Is r)])
    rw [memOf_split (by simpa using h), List.append_assoc]
theorem memOf_has2 : ∀ {as : List Addr} {rows : List (List Rv)} {a : Addr}, as.length = rows.length → a ∈ as → ∃ p ∈ memOf as rows, p.1 = a
  | [], _, _, _, h => by cases h
  | _ :: _, [], _, h, _ => by simp at h
  | b :: as, r :: rows, a, h, hm => by
    rcases List.mem_cons.mp hm with rfl | hm
    · exact ⟨(a, Is r), by simp [memOf], rfl⟩
    · obtain ⟨p, h1, h2⟩ := memOf_has2 (rows := rows) (by simpa using h) hm
      exact ⟨p, by simp [memOf, h1], h2⟩
theorem RelLL.get2 {as : List Addr} : ∀ {x : List (List Vl)} {r : List (List Rv)} (i : Nat), RelLL as x r → i < x.length → ∃ v q, x[i]? = some v ∧ r[i]? = some q ∧ RelL as v q
  | _, _, i, .nil, h => by simp at h
  | _, _, 0, .cons a _, _ => ⟨_, _, rfl, rfl, a⟩
  | _, _, i + 1, .cons _ b, h => by
    obtain ⟨v, q, h1, h2, h3⟩ := RelLL.get2 i b (by simpa using h)
    exact ⟨v, q, by simpa using h1, by simpa using h2, h3⟩
theorem RelLL.mk {as : List Addr} : ∀ {x : List (List Vl)} {r : List (List Rv)}, x.length = r.length → (∀ (i : Nat) (v : List Vl) (q : List Rv), x[i]? = some v → r[i]? = some q → RelL as v q) → RelLL as x r
  | [], [], _, _ => .nil
  | [], _ :: _, h, _ => by simp at h
  | _ :: _, [], h, _ => by simp at h
  | x :: xs, r :: rs, h, k => .cons (k 0 x r rfl rfl) (RelLL.mk (by simpa using h) fun i v q h1 h2 => k (i + 1) v q (by simpa using h1) (by simpa using h2))
/-- the memory parted: what stood, what is new -/
theorem keep_ok {as as1 : List Addr} {h h1 : Mm} {M M1 : Mem} (pre : as <+: as1) (m : MOk as h M) (m1 : MOk as1 h1 M1) (kp : Keep h h1) : ∃ Md Mk, M1 = Md ++ Mk ∧ MOk as (h1.take h.length) Mk ∧ ∀ (c : Nat) (a : Addr), h.length ≤ c → as1[c]? = some a → ∃ p ∈ Md, p.1 = a := by
  obtain ⟨rows, r1, l1, e1⟩ := m
  obtain ⟨rows1, r2, l2, e2⟩ := m1
  obtain ⟨bs, rfl⟩ := pre
  have hl : as.length = h.length := by rw [l1, r1.len]
  have hl1 : rows1.length = as.length + bs.length := by rw [← l2, List.length_append]
  have er : rows1.take as.length ++ rows1.drop as.length = rows1 := List.take_append_drop _ _
  have lt : (rows1.take as.length).length = as.length := by rw [List.length_take]; omega
  have ld : (rows1.drop as.length).length = bs.length := by rw [List.length_drop]; omega
  refine ⟨memOf bs (rows1.drop as.length), memOf as (rows1.take as.length), ?_, ⟨rows1.take as.length, RelLL.mk ?_ ?_, lt.symm, rfl⟩, fun c a hc ha => ?_⟩
  · rw [e2]
    conv => lhs; rw [← er]
    exact memOf_split lt.symm
  · rw [List.length_take, List.length_take, ← hl, r2.len]
  · intro i v q hv hq
    have hi : i < h.length := by
      have := (List.getElem?_eq_some_iff.mp hq).1
      rw [lt] at this; omega
    rw [List.getElem?_take, if_pos hi] at hv
    rw [List.getElem?_take, if_pos (by omega)] at hq
    obtain ⟨q', g1, g2⟩ := r2.get i hv
    rw [hq] at g1; cases g1
    rcases kp.2 i hi with e | ⟨xs, ds, e, pu⟩
    · rw [hv] at e
      obtain ⟨q2, g3, g4⟩ := r1.get i e.symm
      cases (g4.mono (List.prefix_append as bs)).inj g2
      exact g4
    · rw [hv] at e; cases e
      exact RelL.pure pu g2
  · refine memOf_has2 ld.symm ?_
    rw [List.getElem?_append_right (by omega)] at ha
    exact List.mem_of_getElem? ha
/-- a run that freezes, by the run -/
theorem frz_post {mg : Mg} {as : List Addr} {h : Mm} {M : Mem} {Φ : Pst} {ξ : EV → Mem → Prop} {r : R Vl} (m : MOk as h M) (p : Post mg as (r.bind fun x h2 => frzV h h2 x) Φ ξ) :
    Post mg as r (fun r M1 => ∃ Md Mk d r', M1 = Md ++ Mk ∧ FzOk M1 Md r d ∧ (∀ (K : Frg) (B : Hp) (v : V), Dp K B v d → RvOk K B v r') ∧ Φ r' Mk) ξ := by
  cases r with
  | bad => exact p.elim
  | err z h1 => exact p
  | ok x h1 =>
    intro as1 pre r M1 rx m1
    simp only [R.bind, frzV] at p
    split at p
    · rename_i y hy
      split at p
      · rename_i kp
        obtain ⟨Md, Mk, e1, mk, hn⟩ := keep_ok pre m m1 kp
        obtain ⟨d, p1, p2⟩ := fz_ok m1 e1 hn 16 hy rx
        obtain ⟨r', u1, u2⟩ := p1.up as
        exact ⟨Md, Mk, d, r', e1, p2, u2, p as List.prefix_rfl r' Mk u1 mk⟩
      · exact p.elim
    · exact p.elim
theorem so_frz {e : Expr} {v : E} (he : SoE X C e v) : SoE X C e (.frz v) := fun as h ρE ρ M Φ Ξ er m p => by
  rw [ev] at p
  refine ge_frz (he as h ρE ρ M _ Ξ er m ?_)
  cases hv : ev C v ρE h with
  | bad => rw [hv] at p; exact p.elim
  | err z h1 => rw [hv] at p; exact p
  | ok x h1 =>
    rw [hv] at p
    intro as1 pre r M1 rx m1
    simp only [R.bind, frzV] at p
    split at p
    · rename_i y hy
      split at p
      · rename_i kp
        obtain ⟨Md, Mk, e1, mk, hn⟩ := keep_ok pre m m1 kp
        obtain ⟨d, p1, p2⟩ := fz_ok m1 e1 hn 16 hy rx
        obtain ⟨r', u1, u2⟩ := p1.up as
        exact ⟨Md, Mk, d, r', e1, p2, u2, p as List.prefix_rfl r' Mk u1 mk⟩
      · exact p.elim
    · exact p.elim
theorem ge_lstF {es : List Expr} {pos : Pos} {ρ : List Rv} {M : Mem} {Φ : Pst} {Ξ : Xi} (h : GA X es ρ M (fun rs M1 => ∃ ds : List PyData, (∀ (K : Frg) (B : Hp) (v : List V), RvAll K B v rs → DpAll K B v ds) ∧ ds.length ≤ sizeLine ∧ Φ (.d (.list ds)) M1) Ξ) : GE X (.List es pos) ρ M Φ Ξ :=
  fun B H σ ok env tk => eS_of (pe_lst pa_S) (args h ok env tk fun vs H1 B1 M1 rs o1 f1 q1 ⟨ds, hd, z, k⟩ => by
    have q2 := hd _ _ _ q1
    refine ⟨by rw [DpAll.len q2]; exact z, fun p hp => postE_after f1 (post_frz o1 hp (.d (.lst (.of upd_same) (dpAll_mono (same_new (sub_none o1.ext hp)) _ q2))) k)⟩)
theorem ge_lstG {es : List Expr} {pos : Pos} {ρ : List Rv} {M : Mem} {Φ : Pst} {Ξ : Xi} (h : GA X es ρ M (fun rs M1 => (∃ ds : List PyData, (∀ (K : Frg) (B : Hp) (v : List V), RvAll K B v rs → DpAll K B v ds) ∧ ds.length ≤ sizeLine ∧ Φ (.d (.list ds)) M1) ∨ (rs.length ≤ sizeLine ∧ ∀ p, Φ (.cell p) ((p, Is rs) :: M1))) Ξ) : GE X (.List es pos) ρ M Φ Ξ :=
  fun B H σ ok env tk => eS_of (pe_lst pa_S) (args h ok env tk fun vs H1 B1 M1 rs o1 f1 q1 z => by
    rcases z with ⟨ds, hd, z, k⟩ | ⟨z, k⟩
    · have q2 := hd _ _ _ q1
      refine ⟨by rw [DpAll.len q2]; exact z, fun p hp => postE_after f1 (post_frz o1 hp (.d (.lst (.of upd_same) (dpAll_mono (same_new (sub_none o1.ext hp)) _ q2))) k)⟩
    · refine ⟨by rw [q1.length]; exact z, fun p hp => postE_after f1 (post_own (P := Is rs) o1 hp q1 rfl (k p))⟩)
theorem evs_len' {C : Str → List Vl → Mm → R Vl} : ∀ {es : List E} {ρE : Ev} {h h1 : Mm} {us : List Vl}, evs C es ρE h = .ok us h1 → us.length = es.length
  | [], ρE, h, h1, us, e => by rw [evs] at e; cases e; rfl
  | a :: es, ρE, h, h1, us, e => by
    rw [evs] at e
    cases e1 : ev C a ρE h with
    | ok v g =>
      rw [e1] at e
      simp only [R.bind] at e
      cases e2 : evs C es ρE g with
      | ok vs g2 => rw [e2] at e; simp only [R.bind] at e; cases e; rw [List.length_cons, List.length_cons, evs_len' e2]
      | err _ _ => rw [e2] at e; cases e
      | bad => rw [e2] at e; cases e
    | err _ _ => rw [e1] at e; cases e
    | bad => rw [e1] at e; cases e
theorem so_fls (x : Ctx X c C k) {es : List Expr} {pos : Pos} (hn : es.all notStar = true) (hl : (cEs c es).length ≤ 1000) (hs : ∀ e ∈ es, SoE X C e (cE c e).v) : SoE X C (.List es pos) (.fls (cEs c es)) := fun as h ρE ρ M Φ Ξ er m p => by
  rw [ev] at p
  refine ge_lstG (so_args x es hn hs as h ρE ρ M _ Ξ er m ?_)
  cases ee : evs C (cEs c es) ρE h with
  | bad => rw [ee] at p; exact p.elim
  | err z g => rw [ee] at p; exact p
  | ok us h1 =>
    rw [ee] at p
    intro as1 pre rs M1 rl m1
    have q := p
    simp only [R.bind] at q
    split at q
    · rename_i hp
      obtain ⟨ds, p1, p2⟩ := isPL_ok hp rl
      refine .inl ⟨ds, p2, ?_, q as1 pre _ M1 (.lst p1) m1⟩
      rw [← p1.len, evs_len' ee]
      exact Nat.le_trans hl (by decide)
    · refine .inr ⟨by rw [← rl.len, evs_len' ee]; exact Nat.le_trans hl (by decide), post_new (q |> fun z => (show Post X.mg as1 (.ok (.cell h1.length) (h1 ++ [us])) Φ (XI ρ Ξ) from PV.mono pre z)) m1 rl⟩
theorem so_fl (x : Ctx X c C k) {es : List Expr} {pos : Pos} (hn : es.all notStar = true) (hs : ∀ e ∈ es, SoE X C e (cE c e).v) : SoE X C (.List es pos) (c.fl (cEs c es)) := by
  unfold Cc.fl
  split
  · rename_i h
    rw [Bool.and_eq_true, decide_eq_true_eq] at h
    exact so_fls x hn h.2 hs
  · exact so_lst x hn hs
theorem so_fz {e : Expr} {v : E} (he : SoE X C e v) : SoE X C e (c.fz v) := by
  unfold Cc.fz
  split
  · exact so_frz he
  · exact he
/-! append -/
theorem so_app {o e : Expr} {p1 p2 : Pos} {vo ve : E} (hp : plainB o = true) (hn : notStar e = true) (hl : (p1.endLine == p2.line) = true) (ho : SoE X C o vo) (he : SoE X C e ve) : SoE X C (.Call (.Attribute o "append" p1) [e] [] p2) (.app vo ve) := fun as h ρE ρ M Φ Ξ er m p => by
  rw [ev] at p
  have st : starEach [e] X.env = (false, eval e X.env) :: starEach [] X.env := star_cons hn
  refine append_at (attr_no hp) (by rw [st]; rfl) hl st rfl (ho as h ρE ρ M _ Ξ er m ((pv_bind p).imp fun as1 u h1 pre q r M1 r1 m1 => ?_))
  cases r1 with
  | cell ec =>
    rename_i n a
    have hl : n < h1.length := by rw [← m1.len]; exact (List.getElem?_eq_some_iff.mp ec).1
    obtain ⟨rs, rl, hm⟩ := m1.get ec (List.getElem?_eq_getElem hl)
    refine ⟨a, _, rfl, hm, he as1 h1 ρE ρ M1 _ Ξ (er.mono pre) m1 ((pv_bind q).imp fun as2 w h2 pre2 q2 r2 M2 rr2 m2 => ?_)⟩
    simp only [appV] at q2
    split at q2
    · rename_i xs hx
      split at q2
      · rename_i hz
        obtain ⟨rs2, rl2, hm2⟩ := m2.get (pre_get pre2 ec) hx
        obtain ⟨M3, hc, m3⟩ := m2.set (pre_get pre2 ec) hx rl2 (rl2.app (.cons rr2 .nil))
        exact ⟨rs2, M3, hc, by rw [← rl2.len]; exact hz, q2 as2 List.prefix_rfl _ M3 .non m3⟩
      · exact q2.elim
    · exact q2.elim
  | _ => exact q.elim
end
end IR

set_option Elab.async false
set_option linter.all false
set_option maxRecDepth 100000
set_option maxHeartbeats 4000000
namespace IR
open PySem PySem.Spec PyProof.Rows L2 Dl
section
variable {X : Cx} {c : Cc} {C : Str → List Vl → Mm → R Vl} {k : Nat}
/-! ## calls -/
theorem pd_of {mg : Mg} {C : Str → List Vl → Mm → R Vl} {f : Str} {n : Nat} {as : List Addr} {h : Mm} {M : Mem} {vs : List Vl} {rs : List Rv} {Φ : Pst} {Ξ : EV → Mem → Prop} (ha : ∀ xs h, xs.length ≠ n → C f xs h = .bad) (rl : RelL as vs rs) (m : MOk as h M) (p : Post mg as (C f vs h) Φ Ξ) : pdI mg C f n rs M Φ Ξ := by
  refine ⟨?_, as, vs, h, rl, m, p⟩
  rw [← rl.len]
  by_cases e : vs.length = n
  · exact e
  · rw [ha vs h e] at p; exact p.elim
theorem so_call (x : Ctx X c C k) {f : Str} {e : Expr} {es : List Expr} {p1 p2 : Pos} {ps : List Str} {ords : List (List Str)} (hg : isGl c f = true) (hf : c.fns.lookup f = some (ps, ords)) (hn : (e :: es).all notStar = true) (hs : ∀ a ∈ e :: es, SoE X C a (cE c a).v) :
    SoE X C (.Call (.Name f p1) (e :: es) [] p2) (.call f ((cE c e).v :: cEs c es)) := fun as h ρE ρ M Φ Ξ er m p => by
  have hn' := hn
  rw [List.all_cons, Bool.and_eq_true] at hn'
  obtain ⟨Df, ar⟩ := x.fns f ps ords hf
  rw [ev] at p
  refine ge_call Df x.room x.gu (gl_of x hg).1 (star_cons hn'.1) (star_any hn'.2) ?_
  refine so_args x (e :: es) hn hs as h ρE ρ M _ Ξ er m ((pv_bind (by rw [cEs]; exact p)).imp fun as1 us h1 pre q rs M1 rl m1 => ?_)
  exact pd_of ar rl m1 q
theorem so_fcall (x : Ctx X c C k) {f : Str} {e : Expr} {es : List Expr} {p1 p2 : Pos} {ps : List Str} {ords : List (List Str)} (hg : isGl c f = true) (hf : c.fns.lookup f = some (ps, ords)) (hn : (e :: es).all notStar = true) (hs : ∀ a ∈ e :: es, SoE X C a (cE c a).v) :
    SoE X C (.Call (.Name f p1) (e :: es) [] p2) (.fcall f ((cE c e).v :: cEs c es)) := fun as h ρE ρ M Φ Ξ er m p => by
  have hn' := hn
  rw [List.all_cons, Bool.and_eq_true] at hn'
  obtain ⟨Df, ar⟩ := x.fns f ps ords hf
  rw [ev] at p
  refine ge_frz (ge_call Df x.room x.gu (gl_of x hg).1 (star_cons hn'.1) (star_any hn'.2) ?_)
  refine so_args x (e :: es) hn hs as h ρE ρ M _ Ξ er m ((pv_bind (by rw [cEs]; exact p)).imp fun as1 us h1 pre q rs M1 rl m1 => ?_)
  exact pd_of ar rl m1 (frz_post m1 q)
theorem so_kws (x : Ctx X c C k) : ∀ (ks : List Keyword), (∀ a ∈ ks, SoE X C a.value (cE c a.value).v) → ∀ as h ρE ρ M (Ψ : List Rv → Mem → Prop) (Ξ : Xi), ERel as ρE ρ → MOk as h M → PV X.mg as (evs C (cKs c ks) ρE h) (QL Ψ) (XI ρ Ξ) → GK X ks ρ M Ψ Ξ
  | [], _, as, h, ρE, ρ, M, Ψ, Ξ, er, m, p => by rw [cKs, evs] at p; exact gk_nil (p as List.prefix_rfl [] M .nil m)
  | ⟨nm, e, kp⟩ :: ks, hs, as, h, ρE, ρ, M, Ψ, Ξ, er, m, p => by
    rw [cKs, evs] at p
    refine gk_cons (hs _ (List.mem_cons_self ..) as h ρE ρ M _ Ξ er m ((pv_bind p).imp fun as1 u h1 pre q r M1 r1 m1 => ?_))
    refine so_kws x ks (fun e he => hs e (List.mem_cons_of_mem _ he)) as1 h1 ρE ρ M1 _ Ξ (er.mono pre) m1 ((pv_bind q).imp fun as2 us h2 pre2 q2 rs M2 rl m2 => ?_)
    exact q2 as2 List.prefix_rfl _ M2 (.cons (r1.mono pre2) rl) m2
theorem kw_facts {env : Env} {pos : Pos} : ∀ {ks : List Keyword} {ns : List Str}, kwNames ks = some ns → (backToKw pos (keywordEach ks env)).filterMap (·.1) = ns ∧ (backToKw pos (keywordEach ks env)).all (·.1.isSome) = true ∧ (backToKw pos (keywordEach ks env)).any (·.1.isNone) = false ∧ ks.length = ns.length
  | [], ns, h => by simp [kwNames] at h; subst h; exact ⟨rfl, rfl, rfl, rfl⟩
  | ⟨some a, e, kp⟩ :: ks, ns, h => by
    simp only [kwNames] at h
    obtain ⟨ns', h1, h2⟩ := Option.map_eq_some_iff.mp h
    subst h2
    obtain ⟨a1, a2, a3, a4⟩ := kw_facts (env := env) (pos := pos) h1
    refine ⟨?_, ?_, ?_, by simp [a4]⟩
    · show (backToKw pos ((some a, eval e env) :: keywordEach ks env)).filterMap (·.1) = _
      rw [← a1]; rfl
    · show (backToKw pos ((some a, eval e env) :: keywordEach ks env)).all (·.1.isSome) = true
      simpa [backToKw] using a2
    · show (backToKw pos ((some a, eval e env) :: keywordEach ks env)).any (·.1.isNone) = false
      simpa [backToKw] using a3
  | ⟨none, e, kp⟩ :: ks, ns, h => by simp [kwNames] at h
theorem lookup_idx {α : Type} {p : Str} : ∀ {ks : List Str} {ws : List α}, ws.length = ks.length → (ks.zip ws).lookup p = (idxOf p ks).bind fun i => ws[i]?
  | [], _, _ => by simp [idxOf]
  | y :: ys, [], h => by simp at h
  | y :: ys, w :: ws, h => by
    have ih := lookup_idx (p := p) (ks := ys) (ws := ws) (by simpa using h)
    rw [List.zip_cons_cons, List.lookup_cons, idxOf]
    by_cases e : y = p
    · subst e; simp
    · have e' : (p == y) = false := by simpa using fun z => e z.symm
      rw [e', if_neg e, ih]
      cases idxOf p ys <;> simp
theorem pick_perm {as : List Addr} {ks ps : List Str} {vs : List Vl} {rs : List Rv} (rl : RelL as vs rs) (hl : vs.length = ks.length) : RelL as ((permC ks ps).map fun i => vs.getD i .non) (pick ks ps rs) := by
  unfold permC pick
  induction ps with
  | nil => exact .nil
  | cons p ps ih =>
    rw [List.filterMap_cons, List.filterMap_cons]
    rw [lookup_idx (by rw [← rl.len]; exact hl)]
    cases hi : idxOf p ks with
    | none => simpa using ih
    | some i =>
      have hk := (List.getElem?_eq_some_iff.mp (idx_at hi)).1
      have hv : vs[i]? = some vs[i] := List.getElem?_eq_getElem (by omega)
      obtain ⟨q, h1, h2⟩ := rl.get i hv
      simp only [Option.bind_some, h1, List.map_cons]
      refine .cons ?_ ih
      rw [List.getD_eq_getElem?_getD, hv]; exact h2
theorem contains_mem {α : Type} [BEq α] [LawfulBEq α] {xs : List α} {a : α} (h : xs.contains a = true) : a ∈ xs := by simpa using h
theorem so_callk (x : Ctx X c C k) {f : Str} {kw : Keyword} {ks : List Keyword} {p1 p2 : Pos} {ps : List Str} {ords : List (List Str)} {ns : List Str} (hg : isGl c f = true) (hf : c.fns.lookup f = some (ps, ords)) (hk : kwNames (kw :: ks) = some ns) (ho : ords.contains ns = true) (hs : ∀ a ∈ kw :: ks, SoE X C a.value (cE c a.value).v) :
    SoE X C (.Call (.Name f p1) [] (kw :: ks) p2) (.callk f (cKs c (kw :: ks)) (permC ns ps)) := fun as h ρE ρ M Φ Ξ er m p => by
  obtain ⟨Df, ar⟩ := x.fns f ps ords hf
  obtain ⟨a1, a2, a3, a4⟩ := kw_facts (env := X.env) (pos := p2) hk
  rw [ev] at p
  refine ge_callK Df x.room x.gu (gl_of x hg).1 a1 (contains_mem ho) a2 (by rw [a3]; rfl) ?_
  have len : ∀ {as : List Addr} {ks : List Keyword} {ρE : Ev} {h h1 : Mm} {us : List Vl}, evs C (cKs c ks) ρE h = .ok us h1 → us.length = ks.length := by
    intro as ks
    induction ks with
    | nil => intro ρE h h1 us e; rw [cKs, evs] at e; cases e; rfl
    | cons a ks ih =>
      obtain ⟨nm, e0, kp⟩ := a
      intro ρE h h1 us e
      rw [cKs, evs] at e
      cases e1 : ev C (cE c e0).v ρE h with
      | ok v g =>
        rw [e1] at e
        simp only [R.bind] at e
        cases e2 : evs C (cKs c ks) ρE g with
        | ok vs g2 => rw [e2] at e; simp only [R.bind] at e; cases e; rw [List.length_cons, List.length_cons, ih e2]
        | err _ _ => rw [e2] at e; cases e
        | bad => rw [e2] at e; cases e
      | err _ _ => rw [e1] at e; cases e
      | bad => rw [e1] at e; cases e
  refine so_kws x (kw :: ks) hs as h ρE ρ M _ Ξ er m ?_
  have p := pv_bind p
  cases e : evs C (cKs c (kw :: ks)) ρE h with
  | bad => rw [e] at p; exact p.elim
  | err z g => rw [e] at p; exact p
  | ok us g =>
    have hl := len (as := as) e
    rw [e] at p
    intro as1 pre rs M1 rl m1
    have q := p as1 pre
    have hl2 : us.length = ns.length := hl.trans a4
    exact ⟨by rw [← rl.len]; exact hl2, pd_of ar (pick_perm rl hl2) m1 q⟩
theorem so_fcallk (x : Ctx X c C k) {f : Str} {kw : Keyword} {ks : List Keyword} {p1 p2 : Pos} {ps : List Str} {ords : List (List Str)} {ns : List Str} (hg : isGl c f = true) (hf : c.fns.lookup f = some (ps, ords)) (hk : kwNames (kw :: ks) = some ns) (ho : ords.contains ns = true) (hs : ∀ a ∈ kw :: ks, SoE X C a.value (cE c a.value).v) :
    SoE X C (.Call (.Name f p1) [] (kw :: ks) p2) (.fcallk f (cKs c (kw :: ks)) (permC ns ps)) := fun as h ρE ρ M Φ Ξ er m p => by
  obtain ⟨Df, ar⟩ := x.fns f ps ords hf
  obtain ⟨a1, a2, a3, a4⟩ := kw_facts (env := X.env) (pos := p2) hk
  rw [ev] at p
  refine ge_frz (ge_callK Df x.room x.gu (gl_of x hg).1 a1 (contains_mem ho) a2 (by rw [a3]; rfl) ?_)
  have len : ∀ {as : List Addr} {ks : List Keyword} {ρE : Ev} {h h1 : Mm} {us : List Vl}, evs C (cKs c ks) ρE h = .ok us h1 → us.length = ks.length := by
    intro as ks
    induction ks with
    | nil => intro ρE h h1 us e; rw [cKs, evs] at e; cases e; rfl
    | cons a ks ih =>
      obtain ⟨nm, e0, kp⟩ := a
      intro ρE h h1 us e
      rw [cKs, evs] at e
      cases e1 : ev C (cE c e0).v ρE h with
      | ok v g =>
        rw [e1] at e
        simp only [R.bind] at e
        cases e2 : evs C (cKs c ks) ρE g with
        | ok vs g2 => rw [e2] at e; simp only [R.bind] at e; cases e; rw [List.length_cons, List.length_cons, ih e2]
        | err _ _ => rw [e2] at e; cases e
        | bad => rw [e2] at e; cases e
      | err _ _ => rw [e1] at e; cases e
      | bad => rw [e1] at e; cases e
  refine so_kws x (kw :: ks) hs as h ρE ρ M _ Ξ er m ?_
  have p := pv_bind p
  cases e : evs C (cKs c (kw :: ks)) ρE h with
  | bad => rw [e] at p; exact p.elim
  | err z g => rw [e] at p; exact p
  | ok us g =>
    have hl := len (as := as) e
    rw [e] at p
    intro as1 pre rs M1 rl m1
    have q := p as1 pre
    have hl2 : us.length = ns.length := hl.trans a4
    exact ⟨by rw [← rl.len]; exact hl2, pd_of ar (pick_perm rl hl2) m1 (frz_post m1 q)⟩
/-! built-ins -/
theorem biC_nm {f : Str} {b : Bi} (h : biC f = some b) : f = b.nm := by
  unfold biC at h
  have := List.find?_some h
  exact (by simpa using this : b.nm = f).symm
theorem tyC_nm {f : Str} {b : IR.Ty} (h : tyC f = some b) : f = b.nm := by
  unfold tyC at h
  have := List.find?_some h
  exact (by simpa using this : b.nm = f).symm
theorem boot_bi (b : Bi) : bootBuiltins b.nm = some b.val := by
  cases b <;> first | exact PySem.boot_len | (simp only [Bi.nm, Bi.val]; decide +kernel)
theorem nm_ne (b : Bi) : b.nm ≠ "__name__" := by cases b <;> (simp only [Bi.nm]; decide)
theorem boot_ty (b : IR.Ty) : bootBuiltins b.nm = some (.type b.st) := by
  cases b <;> (simp only [Ty.nm, Ty.st]; decide +kernel)
theorem ty_ne (b : IR.Ty) : b.nm ≠ "__name__" := by cases b <;> (simp only [Ty.nm]; decide)
theorem useB_of (x : Ctx X c C k) {f : Str} (h : useB c f = true) : Gl X f ∧ (f == ("__debug__" : Str)) = false ∧ X.mg f = none := by
  unfold useB at h
  rw [Bool.and_eq_true] at h
  exact ⟨(gl_of x h.1).1, (gl_of x h.1).2, x.bts f (contains_mem h.2)⟩
theorem so_bi (x : Ctx X c C k) {f : Str} {b : Bi} {e : Expr} {es : List Expr} {p1 p2 : Pos} (hu : useB c f = true) (hb : biC f = some b) (hn : (e :: es).all notStar = true) (hs : ∀ a ∈ e :: es, SoE X C a (cE c a).v) :
    SoE X C (.Call (.Name f p1) (e :: es) [] p2) (.bi b ((cE c e).v :: cEs c es)) := fun as h ρE ρ M Φ Ξ er m p => by
  have hn' := hn
  rw [List.all_cons, Bool.and_eq_true] at hn'
  obtain ⟨g1, g2, g3⟩ := useB_of x hu
  have e1 := biC_nm hb
  subst e1
  rw [ev] at p
  have fin : GA X (e :: es) ρ M (fun rs M1 => GC X b.val rs M1 Φ) Ξ := by
    refine so_args x (e :: es) hn hs as h ρE ρ M _ Ξ er m ((pv_bind (by rw [cEs]; exact p)).imp fun as1 us h1 pre q rs M1 rl m1 => ?_)
    exact bi_ok q x.calm x.gu x.un m1 rl
  have bi : ∀ v, bootBuiltins b.nm = some v → Dl.Bi X b.nm v := fun v hv => ⟨g3, hv, nm_ne b, g2⟩
  have bb := boot_bi b
  cases b <;> first
    | exact ge_callB (bi _ bb) g1 (star_cons hn'.1) (star_any hn'.2) fin
    | exact ge_callTy (bi _ bb) g1 (star_cons hn'.1) (star_any hn'.2) fin
theorem so_isi (x : Ctx X c C k) {e : Expr} {t : IR.Ty} {p1 p2 p3 : Pos} {ve : E} (hu : useB c "isinstance" = true) (ht : useB c t.nm = true) (hn : notStar e = true) (he : SoE X C e ve) : SoE X C (.Call (.Name "isinstance" p1) [e, .Name t.nm p3] [] p2) (.isi ve t) := fun as h ρE ρ M Φ Ξ er m p => by
  obtain ⟨g1, g2, g3⟩ := useB_of x hu
  obtain ⟨t1, t2, t3⟩ := useB_of x ht
  rw [ev] at p
  have bi : Dl.Bi X "isinstance" (.builtin "isinstance") := ⟨g3, by decide +kernel, by decide, g2⟩
  have bt : Dl.Bi X t.nm (.type t.st) := ⟨t3, boot_ty t, ty_ne t, t2⟩
  refine ge_callB bi g1 (star_cons hn) rfl (ga_cons (star_cons hn) (he as h ρE ρ M _ Ξ er m ((pv_bind p).imp fun as1 u h1 pre q r M1 r1 m1 => ?_)))
  refine ga_cons rfl (ge_ty bt t1 (ga_nil ?_))
  exact isi_ok m1 r1 (post_val q m1 (.bl _))
/-! ## targets -/
def SoG (X : Cx) (vs : List Nat) (e : Expr) (t : Tg) : Prop := ∀ as x r ρE ρE' ρ M (Ψ : List Rv → Mem → Prop), Rel as x r → ERel as ρE ρ → asgT t x ρE = some ρE' → (∀ ρ', ERel as ρE' ρ' → Ψ ρ' M) → GG X e r ρ M Ψ vs
theorem tgs_star {c : Cc} : ∀ {ts : List Expr} {tgs : List Tg}, cTgs c ts = some tgs → ts.all notStar = true ∧ ts.length = tgs.length
  | [], _, h => by simp [cTgs] at h; subst h; exact ⟨rfl, rfl⟩
  | t :: ts, _, h => by
    rw [cTgs] at h
    split at h
    · rename_i a b h1 h2
      cases h
      have := tgs_star h2
      refine ⟨?_, by simp [this.2]⟩
      rw [List.all_cons, this.1, Bool.and_true]
      cases t <;> first | rfl | simp [cTg] at h1
    · cases h
theorem asg_len {env : Env} : ∀ {ts : List Expr}, ts.all notStar = true → (assignEach ts env).length = ts.length ∧ (assignEach ts env).findIdx? (·.1) = none
  | [], _ => ⟨rfl, rfl⟩
  | t :: ts, h => by
    rw [List.all_cons, Bool.and_eq_true] at h
    have := asg_len (env := env) h.2
    rw [asg_cons h.1]
    exact ⟨by simp [this.1], by simpa [List.findIdx?_cons] using this.2⟩
theorem asgTs_len : ∀ {ts : List Tg} {xs : List Vl} {ρ ρ' : Ev}, asgTs ts xs ρ = some ρ' → ts.length = xs.length
  | [], [], _, _, _ => rfl
  | [], _ :: _, _, _, h => by simp [asgTs] at h
  | _ :: _, [], _, _, h => by simp [asgTs] at h
  | t :: ts, x :: xs, ρ, ρ', h => by
    rw [asgTs] at h
    split at h
    · rename_i ρ1 h1; simp [asgTs_len h]
    · cases h
mutual
theorem so_tg (x : Ctx X c C k) : ∀ (e : Expr) (t : Tg), cTg c e = some t → SoG X c.vs e t
  | .Name n pos, t, h => by
    rw [cTg] at h
    obtain ⟨i, h1, h2⟩ := Option.map_eq_some_iff.mp h
    subst h2
    obtain ⟨a1, a2, a3, a4, _⟩ := slotW_of x h1
    intro as v r ρE ρE' ρ M Ψ rv er ea k
    rw [asgT] at ea
    cases ea
    exact gg_name x.nd a1 a2 a3 (a4.elim (fun z => .inl z.2) .inr) (k _ (ERel.set (.some rv) i er))
  | .Tuple ts kk pos, t, h => by
    rw [cTg] at h
    obtain ⟨tgs, h1, h2⟩ := Option.map_eq_some_iff.mp h
    subst h2
    obtain ⟨n1, n2⟩ := tgs_star h1
    obtain ⟨l1, l2⟩ := asg_len (env := X.env) n1
    intro as v r ρE ρE' ρ M Ψ rv er ea k
    cases rv with
    | tup rl =>
      rw [asgT] at ea
      exact gg_tup x.calm (.inl rfl) (by rw [l1, n2, asgTs_len ea, rl.len]) l2 (so_tgs x ts tgs h1 as _ _ ρE ρE' ρ M Ψ rl er ea k)
    | lst pu =>
      rw [asgT] at ea
      obtain ⟨rs, h3, h4⟩ := pu.up as
      exact gg_lstU x.calm h4 (by rw [l1, n2, asgTs_len ea, h3.len]) l2 (so_tgs x ts tgs h1 as _ _ ρE ρE' ρ M Ψ h3 er ea k)
    | _ => simp [asgT] at ea
  | .BoolOp .., _, h => by simp [cTg] at h
  | .NamedExpr .., _, h => by simp [cTg] at h
  | .BinOp .., _, h => by simp [cTg] at h
  | .UnaryOp .., _, h => by simp [cTg] at h
  | .Lambda .., _, h => by simp [cTg] at h
  | .IfExp .., _, h => by simp [cTg] at h
  | .Dict .., _, h => by simp [cTg] at h
  | .Set .., _, h => by simp [cTg] at h
  | .ListComp .., _, h => by simp [cTg] at h
  | .SetComp .., _, h => by simp [cTg] at h
  | .DictComp .., _, h => by simp [cTg] at h
  | .GeneratorExp .., _, h => by simp [cTg] at h
  | .Await .., _, h => by simp [cTg] at h
  | .Yield .., _, h => by simp [cTg] at h
  | .YieldFrom .., _, h => by simp [cTg] at h
  | .Compare .., _, h => by simp [cTg] at h
  | .Call .., _, h => by simp [cTg] at h
  | .FormattedValue .., _, h => by simp [cTg] at h
  | .JoinedStr .., _, h => by simp [cTg] at h
  | .Constant .., _, h => by simp [cTg] at h
  | .Attribute .., _, h => by simp [cTg] at h
  | .Subscript .., _, h => by simp [cTg] at h
  | .Starred .., _, h => by simp [cTg] at h
  | .List .., _, h => by simp [cTg] at h
  | .Slice .., _, h => by simp [cTg] at h
theorem so_tgs (x : Ctx X c C k) : ∀ (ts : List Expr) (tgs : List Tg), cTgs c ts = some tgs → ∀ as xs rs ρE ρE' ρ M (Ψ : List Rv → Mem → Prop), RelL as xs rs → ERel as ρE ρ → asgTs tgs xs ρE = some ρE' → (∀ ρ', ERel as ρE' ρ' → Ψ ρ' M) → GGs X ts rs ρ M Ψ c.vs
  | [], _, h, as, xs, rs, ρE, ρE', ρ, M, Ψ, rl, er, ea, k => by
    rw [cTgs] at h; cases h
    cases rl with
    | nil => simp [asgTs] at ea; subst ea; exact ggs_nil (k _ er)
    | cons _ _ => simp [asgTs] at ea
  | t :: ts, _, h, as, xs, rs, ρE, ρE', ρ, M, Ψ, rl, er, ea, k => by
    rw [cTgs] at h
    split at h
    · rename_i a b h1 h2
      cases h
      have hn : notStar t = true := by cases t <;> first | rfl | simp [cTg] at h1
      cases rl with
      | nil => simp [asgTs] at ea
      | cons rv rl =>
        rw [asgTs] at ea
        split at ea
        · rename_i ρ1 e1
          exact ggs_consG (by rw [asg_cons hn]; rfl) (so_tg x t a h1 as _ _ ρE ρ1 ρ M _ rv er e1 fun ρ' er' => so_tgs x ts b h2 as _ _ ρ1 ρE' ρ' M Ψ rl er' ea k)
        · cases ea
    · cases h
end
end
end IR

set_option Elab.async false
set_option linter.all false
set_option maxRecDepth 100000
set_option maxHeartbeats 4000000
namespace IR
open PySem PySem.Spec PyProof.Rows L2 Dl
section
variable {X : Cx} {c : Cc} {C : Str → List Vl → Mm → R Vl} {k : Nat}
/-! ## walks -/
theorem rng_rel {as : List Addr} (i : Int) (n : Nat) : RelL as (rngV i n) ((List.range n).map fun k => .d (.int (i + (k : Nat)))) := by
  unfold rngV
  generalize List.range n = l
  induction l with
  | nil => exact .nil
  | cons a l ih => exact .cons (.int _) ih
theorem so_rng1 (x : Ctx X c C k) {tg a : Expr} {p1 p2 : Pos} {va : E} (hu : useB c "range" = true) (hn : notStar a = true) (ha : SoE X C a va) : SoI X C tg (.Call (.Name "range" p1) [a] [] p2) (.rng1 va) := fun as h ρE ρ M Θ Ξ er m p => by
  obtain ⟨g1, g2, g3⟩ := useB_of x hu
  rw [evIt] at p
  refine gi_rng1W g3 g1 (star_cons hn) (ga_cons (star_cons hn) (ha as h ρE ρ M _ Ξ er m ((pv_bind p).imp fun as1 u h1 pre q r M1 r1 m1 => ga_nil ?_)))
  cases r1 with
  | int j =>
    simp only at q
    split at q
    · rename_i hs
      simp only [small, Bool.and_eq_true, decide_eq_true_eq] at hs
      exact ⟨j, rfl, hs.1, hs.2, q as1 List.prefix_rfl _ _ M1 (rng_rel 0 _) m1 fun _ _ _ _ _ _ => trivial⟩
    · exact q.elim
  | _ => exact q.elim
theorem so_rng2 (x : Ctx X c C k) {tg a b : Expr} {p1 p2 : Pos} {va vb : E} (hu : useB c "range" = true) (hn : notStar a = true) (hn2 : notStar b = true) (ha : SoE X C a va) (hb : SoE X C b vb) : SoI X C tg (.Call (.Name "range" p1) [a, b] [] p2) (.rng2 va vb) := fun as h ρE ρ M Θ Ξ er m p => by
  obtain ⟨g1, g2, g3⟩ := useB_of x hu
  rw [evIt] at p
  refine gi_rng2W g3 g1 (by rw [star_cons hn, star_cons hn2]; rfl) (star_cons hn2) (ga_cons (star_cons hn) (ha as h ρE ρ M _ Ξ er m ((pv_bind p).imp fun as1 u h1 pre q r M1 r1 m1 => ?_)))
  refine ga_cons (star_cons hn2) (hb as1 h1 ρE ρ M1 _ Ξ (er.mono pre) m1 ((pv_bind q).imp fun as2 u h2 pre2 q2 r2 M2 rr2 m2 => ga_nil ?_))
  cases r1 with
  | int i =>
    cases rr2 with
    | int j =>
      simp only at q2
      split at q2
      · rename_i hs
        simp only [small, Bool.and_eq_true, decide_eq_true_eq] at hs
        exact ⟨i, j, rfl, ⟨hs.1.1, hs.1.2, hs.2.1, hs.2.2⟩, q2 as2 List.prefix_rfl _ _ M2 (rng_rel i _) m2 fun _ _ _ _ _ _ => trivial⟩
      · exact q2.elim
    | _ => exact q2.elim
  | _ => exact q2.elim
theorem zip_rel {as : List Addr} : ∀ {xs ys : List Vl} {rs qs : List Rv}, RelL as xs rs → RelL as ys qs → RelL as (zipV xs ys) ((rs.zip qs).map fun p => .tup [p.1, p.2])
  | _, _, _, _, .nil, _ => .nil
  | _, _, _, _, .cons _ _, .nil => .nil
  | _, _, _, _, .cons a b, .cons a2 b2 => .cons (.tup (.cons a (.cons a2 .nil))) (zip_rel b b2)
theorem enum_rel {as : List Addr} : ∀ {xs : List Vl} {rs : List Rv} (n : Nat), RelL as xs rs → RelL as ((xs.zipIdx n).map fun p => .tup [.int (p.2 : Nat), p.1]) ((rs.zipIdx n).map fun p => .tup [.d (.int (p.2 : Nat)), p.1])
  | _, _, _, .nil => .nil
  | _, _, n, .cons a b => .cons (.tup (.cons (.int _) (.cons a .nil))) (enum_rel (n + 1) b)
theorem so_zip (x : Ctx X c C k) {ts : List Expr} {kk : Nat} {tp : Pos} {a b : Expr} {p1 p2 : Pos} {va vb : E} (hu : useB c "zip" = true) (hn : notStar a = true) (hn2 : notStar b = true) (ha : SoE X C a va) (hb : SoE X C b vb) : SoI X C (.Tuple ts kk tp) (.Call (.Name "zip" p1) [a, b] [] p2) (.zip va vb) := fun as h ρE ρ M Θ Ξ er m p => by
  obtain ⟨g1, g2, g3⟩ := useB_of x hu
  rw [evIt] at p
  refine gi_zipW g3 g1 (star_cons hn) (star_any (by simpa using hn2)) (ga_cons (star_cons hn) (ha as h ρE ρ M _ Ξ er m ((pv_bind p).imp fun as1 u h1 pre q r M1 r1 m1 => ?_)))
  refine ga_cons (star_cons hn2) (hb as1 h1 ρE ρ M1 _ Ξ (er.mono pre) m1 ((pv_bind q).imp fun as2 w h2 pre2 q2 r2 M2 rr2 m2 => ga_nil ?_))
  split at q2
  · rename_i xs ys hx hy
    have r1' := r1.mono pre2
    obtain ⟨rs, rl⟩ := rel_of m2 hx r1'
    obtain ⟨qs, ql⟩ := rel_of m2 hy rr2
    refine ⟨r, r2, rs, qs, rfl, still_one hx r1' rl as2 h2 M2 List.prefix_rfl m2 (still_now hx), still_one hy rr2 ql as2 h2 M2 List.prefix_rfl m2 (still_now hy), q2 as2 List.prefix_rfl _ _ M2 (zip_rel rl ql) m2 fun as3 h3 M3 pre3 m3 st => ?_⟩
    exact ⟨still_one hx r1' rl as3 h3 M3 pre3 m3 fun z hz => st z (List.mem_append_left _ hz), still_one hy rr2 ql as3 h3 M3 pre3 m3 fun z hz => st z (List.mem_append_right _ hz)⟩
  · exact q2.elim
theorem so_enum (x : Ctx X c C k) {ts : List Expr} {kk : Nat} {tp : Pos} {a : Expr} {p1 p2 : Pos} {va : E} (hu : useB c "enumerate" = true) (hn : notStar a = true) (ha : SoE X C a va) : SoI X C (.Tuple ts kk tp) (.Call (.Name "enumerate" p1) [a] [] p2) (.enum va) := fun as h ρE ρ M Θ Ξ er m p => by
  obtain ⟨g1, g2, g3⟩ := useB_of x hu
  rw [evIt] at p
  refine gi_enumW g3 g1 (star_cons hn) (ga_cons (star_cons hn) (ha as h ρE ρ M _ Ξ er m ((pv_bind p).imp fun as1 u h1 pre q r M1 r1 m1 => ga_nil ?_)))
  split at q
  · rename_i xs hx
    obtain ⟨rs, rl⟩ := rel_of m1 hx r1
    exact ⟨r, rs, rfl, still_one hx r1 rl as1 h1 M1 List.prefix_rfl m1 (still_now hx), q as1 List.prefix_rfl _ _ M1 (enum_rel 0 rl) m1 (still_one hx r1 rl)⟩
  · exact q.elim
/-! ## comprehensions -/
theorem comp_run {scope : Scope} {tg elt : Expr} {ifs : List Expr} {t : Tg} {vi : List E} {ve : E} {W : Watch} {S : Mem → Prop} {ρE : Ev} {ρ : List Rv} {Φ : Pst} {ξ : EV → Mem → Prop} {vs : List Nat}
    (hg : AllB X scope fun X1 => SoG X1 vs tg t) (hi : AllB X scope fun X1 => ∀ as h ρE ρ M (Ψ : Bool → Mem → Prop), ERel as ρE ρ → MOk as h M → PV X.mg as (tvL C vi ρE h) (QT Ψ) (fun _ _ => False) → GTs X1 ifs ρ M Ψ X0) (he : AllB X scope fun X1 => SoE X1 C elt ve) :
    ∀ (items acc : List Vl) (rs qs : List Rv) as h M, RelL as items rs → RelL as acc qs → MOk as h M → ERel as ρE ρ → (∀ as2 h2 M2, as <+: as2 → MOk as2 h2 M2 → Still W h2 → S M2) →
      PV X.mg as (lcV (fun ρ h => tvL C vi ρ h) (fun ρ h => ev C ve ρ h) t W (wipeE ρE vs) items acc h) (QV Φ) ξ → CompW X tg elt ifs scope vs ρ (Own Φ) S rs qs M := by
  intro items
  induction items with
  | nil =>
    intro acc rs qs as h M rl ql m er st p
    cases rl
    rw [lcV] at p
    split at p
    · rename_i hst
      exact ⟨st as h M List.prefix_rfl m hst, post_new p m ql⟩
    · exact p.elim
  | cons a items ih =>
    intro acc rs qs as h M rl ql m er st p
    cases rl with
    | cons ra rl =>
      rw [lcV] at p
      split at p
      · rename_i hst
        refine ⟨st as h M List.prefix_rfl m hst.1, by rw [← ql.len]; exact hst.2, fun s H Cc cl fp => ?_⟩
        split at p
        · exact p.elim
        · rename_i ρ1 e1
          refine hg s H Cc cl fp as a _ (wipeE ρE vs) ρ1 (wipeR ρ vs) M _ ra (er.wipe vs) e1 fun ρ' er' => fun s H Cc cl fp => ?_
          refine hi s H Cc cl fp as h ρ1 ρ' M _ er' m ?_
          cases ec : tvL C vi ρ1 h with
          | bad => rw [ec] at p; exact p.elim
          | err z g => rw [ec] at p; exact p.elim
          | ok b h1 =>
            rw [ec] at p
            intro as1 pre M1 m1
            refine ⟨fun eb => ?_, fun eb => ?_⟩
            · subst eb
              intro s H Cc cl fp
              refine he s H Cc cl fp as1 h1 ρ1 ρ' M1 _ X0 (er'.mono pre) m1 ?_
              cases ee : ev C ve ρ1 h1 with
              | bad => simp only [ee] at p; exact p.elim
              | err z g => simp only [ee] at p; exact p.elim
              | ok v h2 =>
                simp only [ee] at p
                intro as2 pre2 r2 M2 rr2 m2
                have pp := pre.trans pre2
                exact ih _ _ _ as2 h2 M2 (rl.mono pp) ((ql.mono pp).app (.cons rr2 .nil)) m2 (er.mono pp) (fun as3 h3 M3 pre3 => st as3 h3 M3 (pp.trans pre3)) (p.mono pp)
            · subst eb
              exact ih _ _ _ as1 h1 M1 (rl.mono pre) (ql.mono pre) m1 (er.mono pre) (fun as3 h3 M3 pre3 => st as3 h3 M3 (pre.trans pre3)) (p.mono pre)
      · exact p.elim
theorem so_lc (x : Ctx X c C k) {scope : Scope} {tg it elt : Expr} {ifs : List Expr} {t : Tg} {vit ve : E} {pos : Pos} (hb : blkC c.N c.sc scope (ownC c scope) = true) (ho : (ownC c scope).isEmpty = false) (hs : notSet it = true) (hl : ifs.length ≤ 1)
    (hit : SoI X C tg it vit) (hg : AllB X scope fun X1 => SoG X1 (blkOf c scope).vs tg t) (hi : ∀ e ∈ ifs, AllB X scope fun X1 => SoT X1 C e (cE (blkOf c scope) e).t) (he : AllB X scope fun X1 => SoE X1 C elt ve) :
    SoE X C (.ListComp elt [⟨tg, it, ifs, 0⟩] scope pos) (.lc t vit (cTs (blkOf c scope) ifs) ve ((ownC c scope).map (·.2))) := fun as h ρE ρ M Φ Ξ er m p => by
  rw [ev] at p
  have hown : ownC c scope ≠ [] := by
    intro e; rw [e] at ho; cases ho
  refine ge_lcW (ownC c scope) (F := Own Φ) (.inr rfl) hown x.calm x.nd (by rw [x.hN, x.sc]; exact blkOk_by hb) (fold_no hs _) ?_
  refine hit as h ρE ρ M _ Ξ er m ((pv_bind p).imp fun as1 w h1 pre q rs S M1 rl m1 st => ?_)
  refine comp_run (vs := (ownC c scope).map (·.2)) hg ?_ he w.1 [] rs [] as1 h1 M1 rl .nil m1 (er.mono pre) st q
  intro s H Cc cl fp as h ρE ρ M Ψ er m p
  match ifs, hl, hi, p with
  | [], _, _, p => rw [cTs, tvL] at p; exact p as List.prefix_rfl M m
  | [e], _, hi, p =>
    rw [cTs, cTs, tvL] at p
    refine hi e (by simp) s H Cc cl fp as h ρE ρ M Ψ X0 er m ?_
    cases et : tv C (cE (blkOf c scope) e).t ρE h with
    | bad => rw [et] at p; exact p.elim
    | err z g => rw [et] at p; exact p
    | ok b g => rw [et] at p; exact p
  | _ :: _ :: _, hl, _, _ => simp at hl
def SoL (X : Cx) (C : Str → List Vl → Mm → R Vl) : List Expr → List E → Prop
  | [], [] => True
  | e :: es, v :: vs => SoE X C e v ∧ SoL X C es vs
  | _, _ => False
theorem so_argsL (x : Ctx X c C k) : ∀ (es : List Expr) (vs : List E), es.all notStar = true → SoL X C es vs → ∀ as h ρE ρ M (Ψ : List Rv → Mem → Prop) (Ξ : Xi), ERel as ρE ρ → MOk as h M → PV X.mg as (evs C vs ρE h) (QL Ψ) (XI ρ Ξ) → GA X es ρ M Ψ Ξ
  | [], [], _, _, as, h, ρE, ρ, M, Ψ, Ξ, er, m, p => by rw [evs] at p; exact ga_nil (p as List.prefix_rfl [] M .nil m)
  | [], _ :: _, _, hs, _, _, _, _, _, _, _, _, _, _ => hs.elim
  | _ :: _, [], _, hs, _, _, _, _, _, _, _, _, _, _ => hs.elim
  | e :: es, v :: vs, hn, hs, as, h, ρE, ρ, M, Ψ, Ξ, er, m, p => by
    rw [List.all_cons, Bool.and_eq_true] at hn
    rw [evs] at p
    refine ga_cons (star_cons hn.1) (hs.1 as h ρE ρ M _ Ξ er m ((pv_bind p).imp fun as1 u h1 pre q r M1 r1 m1 => ?_))
    refine so_argsL x es vs hn.2 hs.2 as1 h1 ρE ρ M1 _ Ξ (er.mono pre) m1 ((pv_bind q).imp fun as2 us h2 pre2 q2 rs M2 rl m2 => ?_)
    exact q2 as2 List.prefix_rfl _ M2 (.cons (r1.mono pre2) rl) m2
theorem so_tupL (x : Ctx X c C k) {es : List Expr} {vs : List E} {kk : Nat} {pos : Pos} (hn : es.all notStar = true) (hs : SoL X C es vs) : SoE X C (.Tuple es kk pos) (.tup vs) := fun as h ρE ρ M Φ Ξ er m p => by
  rw [ev] at p
  refine ge_tupR (so_argsL x es vs hn hs as h ρE ρ M _ Ξ er m ((pv_bind p).imp fun as1 us h1 pre q rs M1 rl m1 => ?_))
  split at q
  · rename_i hz; exact ⟨by rw [← rl.len]; exact hz, post_val q m1 (.tup rl)⟩
  · exact q.elim
theorem so_rng3 (x : Ctx X c C k) {tg a b d : Expr} {p1 p2 : Pos} {va vb vd : E} (hu : useB c "range" = true) (hn : notStar a = true) (hn2 : notStar b = true) (hn3 : notStar d = true) (ha : SoE X C a va) (hb : SoE X C b vb) (hd : SoE X C d vd) : SoI X C tg (.Call (.Name "range" p1) [a, b, d] [] p2) (.rng3 va vb vd) := fun as h ρE ρ M Θ Ξ er m p => by
  obtain ⟨g1, g2, g3⟩ := useB_of x hu
  rw [evIt] at p
  refine gi_rng3W g3 g1 (star_cons hn) (star_any (by simp [hn2, hn3])) (ga_cons (star_cons hn) (ha as h ρE ρ M _ Ξ er m ((pv_bind p).imp fun as1 u h1 pre q r M1 r1 m1 => ?_)))
  refine ga_cons (star_cons hn2) (hb as1 h1 ρE ρ M1 _ Ξ (er.mono pre) m1 ((pv_bind q).imp fun as2 u h2 pre2 q2 r2 M2 rr2 m2 => ?_))
  refine ga_cons (star_cons hn3) (hd as2 h2 ρE ρ M2 _ Ξ (er.mono (pre.trans pre2)) m2 ((pv_bind q2).imp fun as3 w h3 pre3 q3 r3 M3 rr3 m3 => ga_nil ?_))
  cases r1 with
  | int i =>
    cases rr2 with
    | int j =>
      cases rr3 with
      | int l =>
        simp only at q3
        split at q3
        · rename_i hs
          simp only [small, Bool.and_eq_true, decide_eq_true_eq] at hs
          obtain ⟨⟨⟨a1, a2⟩, b1, b2⟩, rfl⟩ := hs
          refine ⟨i, j, rfl, ⟨a1, a2, b1, b2⟩, q3 as3 List.prefix_rfl _ _ M3 ?_ m3 fun _ _ _ _ _ _ => trivial⟩
          unfold rngC
          generalize List.range (i - j).toNat = l
          induction l with
          | nil => exact .nil
          | cons a l ih => exact .cons (.int _) ih
        · exact q3.elim
      | _ => exact q3.elim
    | _ => exact q3.elim
  | _ => exact q3.elim
/-! ## all of it -/
abbrev SoAll (X : Cx) (c : Cc) (C : Str → List Vl → Mm → R Vl) (e : Expr) (r : Cr) : Prop := SoE X C e r.v ∧ SoT X C e r.t ∧ (∀ tg, itOk (isTup tg) r.i = true → SoI X C tg e r.i) ∧ SoE X C e r.m
def Snd (C : Str → List Vl → Mm → R Vl) (k : Nat) (e : Expr) : Prop := ∀ X c, Ctx X c C k → SoAll X c C e (cE c e)
theorem snd_stp {e : Expr} (h : cE c e = stp) : SoAll X c C e (cE c e) := by
  rw [h]; exact ⟨so_stop, so_stopT, fun _ _ => so_stopI, so_stop⟩
theorem snd_dfl {e : Expr} {v : E} (h : cE c e = dfl v) (hp : plainT e = true) (hv : SoE X C e v) : SoAll X c C e (cE c e) := by
  rw [h]; exact ⟨hv, so_tru hp hv, fun _ _ => so_over hv, hv⟩
theorem snd_dflZ {e : Expr} {v : E} (h : cE c e = dflZ c v) (hp : plainT e = true) (hv : SoE X C e v) : SoAll X c C e (cE c e) := by
  rw [h]; exact ⟨so_fz hv, so_tru hp (so_fz hv), fun _ _ => so_over (so_fz hv), hv⟩
theorem snd_dflC {e : Expr} {es : List E} {f : Str} (h : cE c e = dflC c f es) (hp : plainT e = true) (h1 : SoE X C e (.fcall f es)) (h2 : SoE X C e (.call f es)) : SoAll X c C e (cE c e) := by
  unfold dflC at h
  split at h
  · rw [h]; exact ⟨h1, so_tru hp h1, fun _ _ => so_over h1, h2⟩
  · exact snd_dfl h hp h2
theorem snd_dflK {e : Expr} {es : List E} {f : Str} {pm : List Nat} (h : cE c e = dflK c f es pm) (hp : plainT e = true) (h1 : SoE X C e (.fcallk f es pm)) (h2 : SoE X C e (.callk f es pm)) : SoAll X c C e (cE c e) := by
  unfold dflK at h
  split at h
  · rw [h]; exact ⟨h1, so_tru hp h1, fun _ _ => so_over h1, h2⟩
  · exact snd_dfl h hp h2
theorem snd_mk {e : Expr} {v t i : E} (h : cE c e = ⟨v, t, i, v⟩) (hv : SoE X C e v) (ht : SoT X C e t) (hi : ∀ tg, itOk (isTup tg) i = true → SoI X C tg e i) : SoAll X c C e (cE c e) := by
  rw [h]; exact ⟨hv, ht, hi, hv⟩
theorem snd_mkZ {e : Expr} {v t i m : E} (h : cE c e = ⟨v, t, i, m⟩) (hv : SoE X C e v) (ht : SoT X C e t) (hi : ∀ tg, itOk (isTup tg) i = true → SoI X C tg e i) (hm : SoE X C e m) : SoAll X c C e (cE c e) := by
  rw [h]; exact ⟨hv, ht, hi, hm⟩
theorem all_star {es : List Expr} (h : es.all notStar = true) : ∀ e ∈ es, notStar e = true := by simpa using h
theorem snd_n (C : Str → List Vl → Mm → R Vl) (k : Nat) : ∀ n e, sizeOf e < n → Snd C k e := by
  intro n
  induction n with
  | zero => intro e h; omega
  | succ n ih =>
    intro e hlt X c x
    have lst : ∀ (es : List Expr), sizeOf es < n → ∀ e ∈ es, SoE X C e (cE c e).v ∧ SoT X C e (cE c e).t := fun es hl e he => by
      have := List.sizeOf_lt_of_mem he
      have q := ih e (by omega) X c x
      exact ⟨q.1, q.2.1⟩
    have lstm : ∀ (es : List Expr), sizeOf es < n → ∀ e ∈ es, SoE X C e (cE c e).m := fun es hl e he => by
      have := List.sizeOf_lt_of_mem he
      exact (ih e (by omega) X c x).2.2.2
    cases e with
    | Constant v j p =>
      cases v with
      | int i => exact snd_dfl rfl rfl so_int
      | bool i => exact snd_dfl rfl rfl so_bl
      | none => exact snd_dfl rfl rfl so_non
      | str i => exact snd_dfl rfl rfl so_str
      | _ => exact snd_stp rfl
    | Name n p => exact snd_dfl rfl rfl (so_name x)
    | BinOp a o b p =>
      simp at hlt
      have hc : cE c (.BinOp a o b p) = (match opC o with
        | some o => if isLst a then dflZ c (.bin o (cE c a).m (cE c b).v) else ⟨.bin o (cE c a).v (cE c b).v, .tru (.bin o (cE c a).v (cE c b).v), .over (.bin o (cE c a).v (cE c b).v), .bin o (cE c a).m (cE c b).v⟩
        | none => stp) := rfl
      cases ho : opC o with
      | none => exact snd_stp (by rw [hc, ho])
      | some o' =>
        cases opC_eq ho
        have qa := ih a (by omega) X c x
        have qb := (ih b (by omega) X c x).1
        have w := so_bin x (o := o') (pos := p) qa.2.2.2 qb
        cases hl : isLst a with
        | true => exact snd_dflZ (by rw [hc, ho]; simp only [hl]; rfl) rfl w
        | false =>
          have v := so_bin x (o := o') (pos := p) qa.1 qb
          exact snd_mkZ (by rw [hc, ho]; simp only [hl]; rfl) v (so_tru rfl v) (fun _ _ => so_over v) w
    | UnaryOp o a p =>
      simp at hlt
      have q := ih a (by omega) X c x
      cases o with
      | Not => exact snd_mk rfl (so_not q.1) (so_notT q.2.1) (fun _ _ => so_stopI)
      | USub => exact snd_dfl rfl rfl (so_neg q.1)
      | _ => exact snd_stp rfl
    | Compare a ops bs p =>
      simp at hlt
      rcases ops with _ | ⟨o, _ | ⟨o2, _ | ⟨o3, ops⟩⟩⟩
      · exact snd_stp (by cases bs <;> rfl)
      · rcases bs with _ | ⟨b, _ | ⟨b2, bs⟩⟩
        · exact snd_stp rfl
        · simp at hlt
          have hc : cE c (.Compare a [o] [b] p) = (match cpC o with
            | some o => if notSet b then dfl (.cmp o (cE c a).v (cE c b).v) else stp
            | none => stp) := rfl
          cases ho : cpC o with
          | none => exact snd_stp (by rw [hc, ho])
          | some o' =>
            cases cpC_eq ho
            cases hs : notSet b with
            | false => exact snd_stp (by rw [hc, ho]; simp only [hs]; rfl)
            | true =>
              have qa := (ih a (by omega) X c x).1
              have qb := (ih b (by omega) X c x).1
              refine snd_mk (v := .cmp o' (cE c a).v (cE c b).v) (t := .tru _) (i := .over _) (by rw [hc, ho]; simp only [hs]; rfl) (so_cmp x hs qa qb) (so_cmpT x hs qa qb) fun _ _ => so_over (so_cmp x hs qa qb)
        · exact snd_stp rfl
      · rcases bs with _ | ⟨b, _ | ⟨b2, _ | ⟨b3, bs⟩⟩⟩
        · exact snd_stp rfl
        · exact snd_stp rfl
        · simp at hlt
          have hc : cE c (.Compare a [o, o2] [b, b2] p) = (match cpC o, cpC o2 with
            | some o, some p => if notSet b2 then dfl (.chain o p (cE c a).v (cE c b).v (cE c b2).v) else stp
            | _, _ => stp) := rfl
          cases ho : cpC o with
          | none => exact snd_stp (by rw [hc, ho])
          | some o' =>
            cases ho2 : cpC o2 with
            | none => exact snd_stp (by rw [hc, ho, ho2])
            | some o2' =>
              cases cpC_eq ho
              cases cpC_eq ho2
              cases hs : notSet b2 with
              | false => exact snd_stp (by rw [hc, ho, ho2]; simp only [hs]; rfl)
              | true =>
                have qa := (ih a (by omega) X c x).1
                have qb := (ih b (by omega) X c x).1
                have qd := (ih b2 (by omega) X c x).1
                refine snd_mk (v := .chain o' o2' (cE c a).v (cE c b).v (cE c b2).v) (t := .tru _) (i := .over _) (by rw [hc, ho, ho2]; simp only [hs]; rfl) (so_chain x hs qa qb qd) (so_chainT x hs qa qb qd) fun _ _ => so_over (so_chain x hs qa qb qd)
        · exact snd_stp rfl
      · exact snd_stp (by rcases bs with _ | ⟨b, _ | ⟨b2, _ | ⟨b3, bs⟩⟩⟩ <;> rfl)
    | BoolOp o es p =>
      simp at hlt
      have q := lst es (by omega)
      cases o with
      | And => exact snd_mk rfl (so_and x es fun e he => (q e he).1) (fun as h ρE ρ M Ψ Ξ er m p => gt_w (so_andW x es (fun e he => (q e he).2) as h ρE ρ M Ψ Ξ er m p)) fun _ _ => so_stopI
      | Or => exact snd_mk rfl (so_or x es fun e he => (q e he).1) (fun as h ρE ρ M Ψ Ξ er m p => gt_w (so_orW x es (fun e he => (q e he).2) as h ρE ρ M Ψ Ξ er m p)) fun _ _ => so_stopI
    | IfExp t a b p =>
      simp at hlt
      have v := so_ite (pos := p) (ih t (by omega) X c x).2.1 (ih a (by omega) X c x).1 (ih b (by omega) X c x).1
      exact snd_mk rfl v so_stopT fun _ _ => so_over v
    | Tuple es kk p =>
      simp at hlt
      cases hn : es.all notStar with
      | false => exact snd_stp (by rw [cE, hn]; rfl)
      | true =>
        have v := so_tup x (kk := kk) (pos := p) hn fun e he => (lst es (by omega) e he).1
        have w : SoL X C es (cMs c es) := by
          have : ∀ es' : List Expr, (∀ e ∈ es', SoE X C e (cE c e).m) → SoL X C es' (cMs c es') := by
            intro es'
            induction es' with
            | nil => intro _; exact trivial
            | cons a t ih => intro h; exact ⟨h a (by simp), ih fun e he => h e (List.mem_cons_of_mem _ he)⟩
          exact this es fun e he => (lstm es (by omega) e he)
        exact snd_mkZ (by rw [cE, hn]; rfl) v so_stopT (fun _ _ => so_over v) (so_tupL x hn w)
    | List es p =>
      simp at hlt
      cases hn : es.all notStar with
      | false => exact snd_stp (by rw [cE, hn]; rfl)
      | true =>
        have v := so_lst x (pos := p) hn fun e he => (lst es (by omega) e he).1
        exact snd_mkZ (by rw [cE, hn]; rfl) (so_fl x hn fun e he => (lst es (by omega) e he).1) so_stopT (fun _ _ => so_over (so_fl x hn fun e he => (lst es (by omega) e he).1)) v
    | Subscript a b p =>
      simp at hlt
      have qa := (ih a (by omega) X c x).1
      have gen : notSlice b = true → cE c (.Subscript a b p) = (if notSlice b && notTup b then dfl (.ix (cE c a).v (cE c b).v) else stp) → SoAll X c C (.Subscript a b p) (cE c (.Subscript a b p)) := fun h1 h2 => by
        cases ht : notTup b with
        | false => exact snd_stp (by rw [h2, ht, Bool.and_false]; rfl)
        | true => exact snd_dfl (by rw [h2, h1, ht]; rfl) rfl (so_ix h1 qa (ih b (by omega) X c x).1)
      cases b with
      | Slice lo hi st p2 =>
        cases st with
        | none =>
          simp at hlt
          refine snd_dflZ rfl rfl (so_slice x qa (fun e he => ?_) fun e he => ?_)
          · subst he; simp at hlt; exact (ih e (by omega) X c x).1
          · subst he; simp at hlt; exact (ih e (by omega) X c x).1
        | some s => exact snd_stp rfl
      | _ => exact gen rfl rfl
    | Call f args kws p =>
      simp at hlt
      cases f with
      | Attribute o at' p1 =>
        simp at hlt
        have hc : cE c (.Call (.Attribute o at' p1) args kws p) = attrC at' o p1 args kws p (cE c o).v (cEs c args) := rfl
        rcases args with _ | ⟨e, _ | ⟨e2, es⟩⟩
        · exact snd_stp (by rw [hc]; rfl)
        · cases kws with
          | nil =>
            simp at hlt
            have hc2 : attrC at' o p1 [e] [] p (cE c o).v (cEs c [e]) = if at' == ("append" : Str) && plainB o && notStar e && (p1.endLine == p.line) then ⟨.app (cE c o).v (cE c e).v, .stop, .stop, .app (cE c o).v (cE c e).v⟩ else stp := rfl
            cases hh : (at' == ("append" : Str) && plainB o && notStar e && (p1.endLine == p.line)) with
            | false => exact snd_stp (by rw [hc, hc2, hh]; rfl)
            | true =>
              have hh' := hh
              simp only [Bool.and_eq_true] at hh'
              obtain ⟨⟨⟨h1, h2⟩, h3⟩, h4⟩ := hh'
              have h1 : at' = "append" := by simpa using h1
              subst h1
              exact snd_mk (by rw [hc, hc2, hh]; rfl) (so_app h2 h3 h4 (ih o (by omega) X c x).1 (ih e (by omega) X c x).1) so_stopT fun _ _ => so_stopI
          | cons k ks => exact snd_stp (by rw [hc]; rfl)
        · exact snd_stp (by rw [hc]; rfl)
      | Name f p1 =>
        have hc : cE c (.Call (.Name f p1) args kws p) = callC c f args kws (cEs c args) (cKs c kws) := rfl
        have qs := lst args (by omega)
        cases hg : isGl c f with
        | false => exact snd_stp (by rw [hc]; unfold callC; rw [hg]; rfl)
        | true =>
          cases args with
          | nil =>
            cases kws with
            | nil => exact snd_stp (by rw [hc]; unfold callC; rw [hg]; rfl)
            | cons kw ks =>
              have hc2 : callC c f [] (kw :: ks) (cEs c []) (cKs c (kw :: ks)) = (match c.fns.lookup f, kwNames (kw :: ks) with
                | some (ps, ords), some ns => if ords.contains ns then dflK c f (cKs c (kw :: ks)) (permC ns ps) else stp
                | _, _ => stp) := by unfold callC; rw [hg]; rfl
              cases hf : c.fns.lookup f with
              | none => exact snd_stp (by rw [hc, hc2, hf])
              | some pp =>
                obtain ⟨ps, ords⟩ := pp
                cases hk : kwNames (kw :: ks) with
                | none => exact snd_stp (by rw [hc, hc2, hf, hk])
                | some ns =>
                  cases ho : ords.contains ns with
                  | false => exact snd_stp (by rw [hc, hc2, hf, hk]; simp only [ho]; rfl)
                  | true =>
                    have sub : ∀ a ∈ kw :: ks, SoE X C a.value (cE c a.value).v := fun a ha => by
                      have h1 := List.sizeOf_lt_of_mem ha
                      have h2 : sizeOf a.value < sizeOf a := by cases a; simp; omega
                      exact (ih a.value (by omega) X c x).1
                    exact snd_dflK (f := f) (by rw [hc, hc2, hf, hk]; simp only [ho]; rfl) rfl (so_fcallk x hg hf hk ho sub) (so_callk x hg hf hk ho sub)
          | cons e es =>
            cases kws with
            | cons kw ks => exact snd_stp (by rw [hc]; unfold callC; rw [hg]; rfl)
            | nil =>
              have hc2 : callC c f (e :: es) [] (cEs c (e :: es)) (cKs c []) = if (e :: es).all notStar then (match c.fns.lookup f with
                | some _ => dflC c f ((cE c e).v :: cEs c es)
                | none => if c.bts.contains f then bltC c f es (cE c e).v (cEs c es) else stp) else stp := by unfold callC; rw [hg]; rfl
              cases hn : (e :: es).all notStar with
              | false => exact snd_stp (by rw [hc, hc2, hn]; rfl)
              | true =>
                cases hf : c.fns.lookup f with
                | some pp =>
                  obtain ⟨ps, ords⟩ := pp
                  exact snd_dflC (f := f) (by rw [hc, hc2, hn, hf]; rfl) rfl (so_fcall x hg hf hn fun a ha => (qs a ha).1) (so_call x hg hf hn fun a ha => (qs a ha).1)
                | none =>
                  cases hb : c.bts.contains f with
                  | false => exact snd_stp (by rw [hc, hc2, hn, hf, hb]; rfl)
                  | true =>
                    have hc3 : cE c (.Call (.Name f p1) (e :: es) [] p) = bltC c f es (cE c e).v (cEs c es) := by rw [hc, hc2, hn, hf, hb]; rfl
                    have hu : useB c f = true := by unfold useB; rw [hg, hb]; rfl
                    have hne : notStar e = true := all_star hn e (by simp)
                    by_cases f1 : f = "isinstance"
                    · subst f1
                      have hc4 : bltC c "isinstance" es (cE c e).v (cEs c es) = isiC c es (cE c e).v := rfl
                      rcases es with _ | ⟨t, _ | ⟨t2, es⟩⟩
                      · exact snd_stp (by rw [hc3]; rfl)
                      · cases t with
                        | Name tn tp =>
                          have hc5 : isiC c [.Name tn tp] (cE c e).v = (match tyC tn with
                            | some t => if useB c t.nm then dfl (.isi (cE c e).v t) else stp
                            | none => stp) := rfl
                          cases ht : tyC tn with
                          | none => exact snd_stp (by rw [hc3, hc4, hc5, ht])
                          | some t =>
                            cases hut : useB c t.nm with
                            | false => exact snd_stp (by rw [hc3, hc4, hc5, ht]; simp only [hut]; rfl)
                            | true =>
                              have e1 := tyC_nm ht
                              subst e1
                              exact snd_dfl (by rw [hc3, hc4, hc5, ht]; simp only [hut]; rfl) rfl (so_isi x hu hut hne (qs e (by simp)).1)
                        | _ => exact snd_stp (by rw [hc3]; rfl)
                      · exact snd_stp (by rw [hc3, hc4]; cases t <;> rfl)
                    · by_cases f2 : f = "range"
                      · subst f2
                        rcases es with _ | ⟨b, _ | ⟨b2, es⟩⟩
                        · exact snd_mk (by rw [hc3]; rfl) so_stop so_stopT fun tg _ => so_rng1 x hu hne (qs e (by simp)).1
                        · exact snd_mk (by rw [hc3]; rfl) so_stop so_stopT fun tg _ => so_rng2 x hu hne (all_star hn b (by simp)) (qs e (by simp)).1 (qs b (by simp)).1
                        · rcases es with _ | ⟨b3, es⟩
                          · exact snd_mk (by rw [hc3]; rfl) so_stop so_stopT fun tg _ => so_rng3 x hu hne (all_star hn b (by simp)) (all_star hn b2 (by simp)) (qs e (by simp)).1 (qs b (by simp)).1 (qs b2 (by simp)).1
                          · exact snd_stp (by rw [hc3]; rfl)
                      · by_cases f3 : f = "enumerate"
                        · subst f3
                          rcases es with _ | ⟨b, es⟩
                          · refine snd_mk (i := .enum (cE c e).v) (by rw [hc3]; rfl) so_stop so_stopT fun tg ht => ?_
                            cases tg with
                            | Tuple ts kk tp => exact so_enum x hu hne (qs e (by simp)).1
                            | _ => cases ht
                          · exact snd_stp (by rw [hc3]; rfl)
                        · by_cases f4 : f = "zip"
                          · subst f4
                            rcases es with _ | ⟨b, _ | ⟨b2, es⟩⟩
                            · exact snd_stp (by rw [hc3]; rfl)
                            · refine snd_mk (i := .zip (cE c e).v (cE c b).v) (by rw [hc3]; rfl) so_stop so_stopT fun tg ht => ?_
                              cases tg with
                              | Tuple ts kk tp => exact so_zip x hu hne (all_star hn b (by simp)) (qs e (by simp)).1 (qs b (by simp)).1
                              | _ => cases ht
                            · exact snd_stp (by rw [hc3]; rfl)
                          · have hc4 : bltC c f es (cE c e).v (cEs c es) = (match biC f with
                              | some b => (if b = .list then dflZ c (.bi b ((cE c e).v :: cEs c es)) else dfl (.bi b ((cE c e).v :: cEs c es)))
                              | none => stp) := by
                              unfold bltC
                              rw [if_neg (by simpa using f1), if_neg (by simpa using f2), if_neg (by simpa using f3), if_neg (by simpa using f4)]
                              try rfl
                            cases hbi : biC f with
                            | none => exact snd_stp (by rw [hc3, hc4, hbi])
                            | some b =>
                              by_cases hl : b = .list
                              · exact snd_dflZ (by rw [hc3, hc4, hbi]; simp only [if_pos hl]) rfl (so_bi x hu hbi hn fun a ha => (qs a ha).1)
                              · exact snd_dfl (by rw [hc3, hc4, hbi]; simp only [if_neg hl]) rfl (so_bi x hu hbi hn fun a ha => (qs a ha).1)
      | _ => exact snd_stp rfl
    | ListComp elt gs scope p =>
      rcases gs with _ | ⟨⟨tg, it, ifs, asy⟩, _ | ⟨g2, gs⟩⟩
      · exact snd_stp rfl
      · by_cases ha : asy = 0
        · subst ha
          simp at hlt
          have hc : cE c (.ListComp elt [⟨tg, it, ifs, 0⟩] scope p) = lcC c scope tg it ifs (cE c it).i (cTs (blkOf c scope) ifs) (cE (blkOf c scope) elt).v := rfl
          cases ht : cTg (blkOf c scope) tg with
          | none => exact snd_stp (by rw [hc, lcC, ht])
          | some t =>
            cases hh : (blkC c.N c.sc scope (ownC c scope) && !(ownC c scope).isEmpty && notSet it && decide (ifs.length ≤ 1) && itOk (isTup tg) (cE c it).i) with
            | false => exact snd_stp (by rw [hc, lcC, ht]; simp only [hh]; rfl)
            | true =>
              have hh' := hh
              simp only [Bool.and_eq_true, decide_eq_true_eq, Bool.not_eq_true'] at hh'
              obtain ⟨⟨⟨⟨h1, h2⟩, h3⟩, h4⟩, h5⟩ := hh'
              have b := x.block scope
              have v := so_lc x (pos := p) (elt := elt) (ve := (cE (blkOf c scope) elt).v) h1 h2 h3 h4 ((ih it (by omega) X c x).2.2.1 tg h5) (fun s H Cc cl fp => so_tg (b s H Cc cl fp) tg t ht)
                (fun e he s H Cc cl fp => by
                  have := List.sizeOf_lt_of_mem he
                  exact (ih e (by omega) _ _ (b s H Cc cl fp)).2.1) (fun s H Cc cl fp => (ih elt (by omega) _ _ (b s H Cc cl fp)).1)
              exact snd_mkZ (by rw [hc, lcC, ht]; simp only [hh]; rfl) (so_fz v) so_stopT (fun _ _ => so_over (so_fz v)) v
        · refine snd_stp ?_
          cases asy with
          | ofNat n => cases n with
            | zero => exact absurd rfl ha
            | succ n => rfl
          | negSucc n => rfl
      · refine snd_stp ?_
        cases asy with
        | ofNat n => cases n <;> rfl
        | negSucc n => rfl
    | _ => exact snd_stp rfl
theorem snd (C : Str → List Vl → Mm → R Vl) (k : Nat) (e : Expr) : Snd C k e := snd_n C k (sizeOf e + 1) e (by omega)
end
end IR

set_option Elab.async false
set_option linter.all false
set_option maxRecDepth 100000
set_option maxHeartbeats 4000000
namespace IR
open PySem PySem.Spec PyProof.Rows L2 Dl
section
variable {X : Cx} {c : Cc} {C : Str → List Vl → Mm → R Vl} {k : Nat}
def PS (mg : Mg) (as : List Addr) (r : RS) (D : DE) : Prop :=
  match r with
  | .next ρ' h' => ∀ as' ρ2 M', as <+: as' → ERel as' ρ' ρ2 → MOk as' h' M' → D.nx ρ2 M'
  | .ret v h' => ∀ as' r M', as <+: as' → Rel as' v r → MOk as' h' M' → D.rt r M'
  | .brk ρ' h' => ∀ as' ρ2 M', as <+: as' → ERel as' ρ' ρ2 → MOk as' h' M' → D.bk ρ2 M'
  | .cont ρ' h' => ∀ as' ρ2 M', as <+: as' → ERel as' ρ' ρ2 → MOk as' h' M' → D.ct ρ2 M'
  | .err x ρ' h' => ∀ as' e ρ2 M', as <+: as' → XRel mg x e → ERel as' ρ' ρ2 → MOk as' h' M' → D.xx e ρ2 M'
  | .bad => False
theorem PS.mono {mg : Mg} {as as' : List Addr} {r : RS} {D : DE} (h : as <+: as') (p : PS mg as r D) : PS mg as' r D := by
  cases r with
  | next _ _ => exact fun as'' a b e => p as'' a b (h.trans e)
  | ret _ _ => exact fun as'' a b e => p as'' a b (h.trans e)
  | brk _ _ => exact fun as'' a b e => p as'' a b (h.trans e)
  | cont _ _ => exact fun as'' a b e => p as'' a b (h.trans e)
  | err _ _ _ => exact fun as'' a b d e => p as'' a b d (h.trans e)
  | bad => exact p
theorem sole_eq {t v : Expr} {l : Nat} {env : Env} : swapsWithSole [t] v l env = swapsWith v (some t) l env := by
  unfold swapsWithSole; rfl
/-- an expression first -/
theorem ps_bind {α : Type} {mg : Mg} {as : List Addr} {r : R α} {ρE : Ev} {ρ : List Rv} {f : α → Mm → RS} {D : DE} (er : ERel as ρE ρ) (p : PS mg as (r.bindS ρE f) D) : PV mg as r (fun as' a h' => PS mg as' (f a h') D) (XI ρ D.xx) := by
  cases r with
  | ok a h' => exact fun as' k => p.mono k
  | err x h' => exact fun as' e M' pre q m => p as' e ρ M' pre q (er.mono pre) m
  | bad => exact p
def SoS (X : Cx) (C : Str → List Vl → Mm → R Vl) (st : Stmt) (s : S) : Prop := ∀ as h ρE ρ M (D : DE), ERel as ρE ρ → MOk as h M → PS X.mg as (ex C s ρE h) D → GS X st ρ M D
def SoSs (X : Cx) (C : Str → List Vl → Mm → R Vl) (st : List Stmt) (s : List S) : Prop := ∀ as h ρE ρ M (D : DE), ERel as ρE ρ → MOk as h M → PS X.mg as (exs C s ρE h) D → GSs X st ρ M D
theorem so_sstop {st : Stmt} : SoS X C st .stop := fun _ _ _ _ _ _ _ _ p => p.elim
theorem var_of (x : Ctx X c C k) (hb : c.blk = false) {n : Str} {i : Nat} (h : slotW c n = some i) : Var X i n := by
  obtain ⟨a1, a2, a3, a4, a5, a6⟩ := slotW_of x h
  exact ⟨a1, a2.elim (fun h => .inl h) fun h => .inr (.inl h), a2, (x.fn hb).1 n, a5, a6⟩
theorem so_set (x : Ctx X c C k) (hb : c.blk = false) {n : Str} {i : Nat} {e : Expr} {v : E} {py p : Pos} (hi : slotW c n = some i) (hn : notComp e = true) (he : SoE X C e v) : SoS X C (.Assign [.Name n py] e p) (.set i v) := fun as h ρE ρ M D er m p => by
  rw [ex] at p
  refine gs_set (var_of x hb hi) x.nd (swap_no hn) (he as h ρE ρ M _ _ er m ((ps_bind er p).imp fun as1 u h1 pre q r M1 r1 m1 => ?_))
  exact q as1 _ M1 List.prefix_rfl (ERel.set (.some r1) i (er.mono pre)) m1
theorem so_setLc (x : Ctx X c C k) (hb : c.blk = false) {n : Str} {i : Nat} {scope : Scope} {tg it elt : Expr} {ifs : List Expr} {t : Tg} {vit ve : E} {pos py p : Pos} (hi : slotW c n = some i) (h1 : c.sc.kind = .function) (h2 : c.sc.names.lookup n = some .local) (h3 : (py.line == pos.line) = true)
    (h4 : (scope.names.any fun (m, k) => m == n && (k == .local || k == .cell)) = false) (hk : blkC c.N c.sc scope (ownC c scope) = true) (ho : (ownC c scope).isEmpty = false) (hs : notSet it = true) (hl : ifs.length ≤ 1)
    (hit : SoI X C tg it vit) (hg : AllB X scope fun X1 => SoG X1 (blkOf c scope).vs tg t) (hif : ∀ e ∈ ifs, AllB X scope fun X1 => SoT X1 C e (cE (blkOf c scope) e).t) (he : AllB X scope fun X1 => SoE X1 C elt ve) :
    SoS X C (.Assign [.Name n py] (.ListComp elt [⟨tg, it, ifs, 0⟩] scope pos) p) (.set i (.lc t vit (cTs (blkOf c scope) ifs) ve ((ownC c scope).map (·.2)))) := fun as h ρE ρ M D er m p => by
  rw [ex, ev] at p
  have hown : ownC c scope ≠ [] := by
    intro e; rw [e] at ho; cases ho
  refine gs_lcW (ownC c scope) (F := Own _) (.inr rfl) hown (var_of x hb hi) x.calm x.nd (by rw [x.sc]; exact h2) (sw_true (by rw [x.sc]; exact h1) (by rw [x.sc]; exact h2) h3 h4) (by rw [x.hN, x.sc]; exact blkOk_by hk) (fold_no hs _) ?_
  refine hit as h ρE ρ M _ _ er m ((pv_bind (ps_bind er p |> fun z => (z : PV X.mg as _ _ _))).imp fun as1 w h1 pre q rs S M1 rl m1 st => ?_)
  refine comp_run (vs := (ownC c scope).map (·.2)) (ξ := XI ρ D.xx) hg ?_ he w.1 [] rs [] as1 h1 M1 rl .nil m1 (er.mono pre) st (q.imp fun as2 v h2 pre2 z r M2 rr m2 => z as2 _ M2 List.prefix_rfl (ERel.set (.some rr) i (er.mono (pre.trans pre2))) m2)
  intro s H Cc cl fp as h ρE ρ M Ψ er m p
  match ifs, hl, hif, p with
  | [], _, _, p => rw [cTs, tvL] at p; exact p as List.prefix_rfl M m
  | [e], _, hi, p =>
    rw [cTs, cTs, tvL] at p
    refine hi e (by simp) s H Cc cl fp as h ρE ρ M Ψ X0 er m ?_
    cases et : tv C (cE (blkOf c scope) e).t ρE h with
    | bad => rw [et] at p; exact p.elim
    | err z g => rw [et] at p; exact p
    | ok b g => rw [et] at p; exact p
  | _ :: _ :: _, hl, _, _ => simp at hl
theorem so_asg (x : Ctx X c C k) (hb : c.blk = false) {ts : List Expr} {tgs : List Tg} {e : Expr} {v : E} {k1 : Nat} {p1 p : Pos} (ht : cTgs c ts = some tgs) (hn : notComp e = true) (hsw : swappedStores [.Tuple ts k1 p1] e X.env = pure none) (he : SoE X C e v) : SoS X C (.Assign [.Tuple ts k1 p1] e p) (.tset (.tup tgs) v) := fun as h ρE ρ M D er m p => by
  rw [ex] at p
  refine gs_asg (by rw [sole_eq]; exact swap_no hn) hsw rfl (he as h ρE ρ M _ _ er m ((ps_bind er p).imp fun as1 u h1 pre q r M1 r1 m1 => ?_))
  have g := so_tg x (.Tuple ts k1 p1) (.tup tgs) (by rw [cTg, ht]; rfl)
  rw [(x.fn hb).2] at g
  cases ea : asgT (.tup tgs) u ρE with
  | none => rw [ea] at q; exact q.elim
  | some ρ1 =>
    rw [ea] at q
    exact g as1 u r ρE ρ1 ρ M1 _ r1 (er.mono pre) ea fun ρ' er' => q as1 ρ' M1 List.prefix_rfl er' m1
theorem so_setix (x : Ctx X c C k) {o i e : Expr} {vo vi ve : E} {p1 p : Pos} (hn : notComp e = true) (hi : notSlice i = true) (ho : SoE X C o vo) (hii : SoE X C i vi) (he : SoE X C e ve) : SoS X C (.Assign [.Subscript o i p1] e p) (.setix vo vi ve) := fun as h ρE ρ M D er m p => by
  rw [ex] at p
  refine setix_at (by rw [sole_eq]; exact swap_no hn) rfl rfl (fun v => by cases i <;> first | rfl | cases hi) (he as h ρE ρ M _ _ er m ((ps_bind er p).imp fun as1 v h1 pre q r M1 r1 m1 => ?_))
  refine ho as1 h1 ρE ρ M1 _ _ (er.mono pre) m1 ((ps_bind (er.mono pre) q).imp fun as2 u h2 pre2 q2 r2 M2 rr2 m2 => ?_)
  have pp := pre.trans pre2
  refine hii as2 h2 ρE ρ M2 _ _ (er.mono pp) m2 ((ps_bind (er.mono pp) q2).imp fun as3 w h3 pre3 q3 r3 M3 rr3 m3 => ?_)
  cases es : setixV u w v h3 with
  | none => rw [es] at q3; exact q3.elim
  | some h4 =>
    rw [es] at q3
    unfold setixV at es
    split at es
    · rename_i n kk
      split at es
      · rename_i xs hx
        split at es
        · rename_i j hj
          cases es
          cases rr2 with
          | cell ec =>
            cases rr3
            obtain ⟨rs, rl, hm⟩ := m3.get (pre_get pre3 ec) hx
            obtain ⟨M4, hc, m4⟩ := m3.set (pre_get pre3 ec) hx rl (rl.set (r1.mono (pre2.trans pre3)) j)
            exact ⟨_, rs, kk, j, M4, rfl, rfl, hc, by rw [← rl.len]; exact hj, q3 as3 ρ M4 List.prefix_rfl (er.mono (pp.trans pre3)) m4⟩
        · cases es
      · cases es
    · cases es
/-! a store that freezes -/
theorem set_self {α : Type} {xs : List α} {i : Nat} {v : α} (h : xs[i]? = some v) : xs.set i v = xs := by
  refine List.ext_getElem? fun j => ?_
  rw [List.getElem?_set]
  split
  · rename_i e; subst e
    split
    · exact h.symm
    · rename_i hl
      rw [List.getElem?_eq_none (by omega)] at h; cases h
  · rfl
theorem gs_frz {st : Stmt} {ρ : List Rv} {M : Mem} {D : DE} {i : Nat} (h : GS X st ρ M { D with nx := fun ρ1 M1 => ∃ Md Mk, M1 = Md ++ Mk ∧ ((ρ1[i]? = none ∧ D.nx ρ1 Mk) ∨ ∃ r d r', ρ1[i]? = some r ∧ r.isAny = false ∧ FzOk M1 Md r d ∧ (∀ (K : Frg) (B : Hp) (v : V), Dp K B v d → RvOk K B v r') ∧ D.nx (ρ1.set i r') Mk) }) : GS X st ρ M D := fun B H σ ok env tk => by
  refine sS_mono (h B H σ ok env tk) ⟨fun σ' H1 => ?_, fun _ _ z => z, fun _ _ z => z, fun _ _ z => z⟩
  rintro ⟨B1, M1, ρ1, o1, f1, e1, Md, Mk, e, z⟩
  subst e
  rcases z with ⟨hn, k⟩ | ⟨r, d, r', hi, ha, hf, hu, k⟩
  · exact ⟨Bz B1 H1 Md, Mk, ρ1, (bz_ok o1).1, f1.trans (bz_ok o1).2, env_mono (bz_same o1) e1, k⟩
  · obtain ⟨v, g1, g2⟩ := env_get i e1 hi ha
    have q := hu _ _ _ (hf _ _ _ _ o1 g2)
    have e2 := env_set (.some q) i (env_mono (bz_same o1) e1)
    rw [set_self g1] at e2
    exact ⟨Bz B1 H1 Md, Mk, _, (bz_ok o1).1, f1.trans (bz_ok o1).2, e2, k⟩
theorem SRel.inj {as : List Addr} {o : Option Vl} {r r' : Rv} (a : SRel as o r) (b : SRel as o r') : r = r' := by
  cases a with
  | none => cases b; rfl
  | some a => cases b with | some b => exact a.inj b
theorem ERel.inj {as : List Addr} : ∀ {ρ : Ev} {r r' : List Rv}, ERel as ρ r → ERel as ρ r' → r = r'
  | _, _, _, .nil, .nil => rfl
  | _, _, _, .cons a b, .cons c d => by rw [SRel.inj a c, ERel.inj b d]
theorem ERel.set_inj {as as1 : List Addr} (pre : as <+: as1) {o : Option Vl} {r' : Rv} : ∀ {ρE : Ev} {ρ ρ2 : List Rv} (i : Nat), ERel as ρE ρ → ERel as1 (ρE.set i o) ρ2 → ρ2.set i r' = ρ.set i r'
  | _, _, _, i, .nil, h => by cases h; rfl
  | _, _, _, 0, .cons a b, h => by
    cases h with | cons c d => rw [List.set_cons_zero, List.set_cons_zero, ERel.inj (b.mono pre) d]
  | _, _, _, i + 1, .cons a b, h => by
    cases h with | cons c d => rw [List.set_cons_succ, List.set_cons_succ, SRel.inj (a.mono pre) c, ERel.set_inj pre i b d]
theorem ERel.len {as : List Addr} : ∀ {ρ : Ev} {r : List Rv}, ERel as ρ r → ρ.length = r.length
  | _, _, .nil => rfl
  | _, _, .cons _ b => by rw [List.length_cons, List.length_cons, ERel.len b]
theorem so_setF {st : Stmt} {i : Nat} {v : E} (hs : SoS X C st (.set i v)) : SoS X C st (.set i (.frz v)) := fun as h ρE ρ M D er m p => by
  rw [ex, ev] at p
  refine gs_frz (i := i) (hs as h ρE ρ M _ er m ?_)
  rw [ex]
  cases hv : ev C v ρE h with
  | bad => rw [hv] at p; exact p.elim
  | err z h1 => rw [hv] at p; exact p
  | ok x h1 =>
    rw [hv] at p
    simp only [R.bind, frzV] at p
    split at p
    · rename_i y hy
      split at p
      · rename_i kp
        intro as1 ρ2 M1 pre er2 m1
        have p := p as
        obtain ⟨Md, Mk, e1, mk, hn⟩ := keep_ok pre m m1 kp
        refine ⟨Md, Mk, e1, ?_⟩
        by_cases hi : i < ρE.length
        · obtain ⟨r, g1, g2⟩ := er2.get i (v := x) (by rw [List.getElem?_set_self hi])
          obtain ⟨d, p1, p2⟩ := fz_ok m1 e1 hn 16 hy g2
          obtain ⟨r', u1, u2⟩ := p1.up as
          refine .inr ⟨r, d, r', g1, g2.notAny, p2, u2, ?_⟩
          rw [ERel.set_inj pre i er er2]
          exact p _ Mk List.prefix_rfl (er.set (.some u1) i) mk
        · have hl := er2.len
          rw [List.length_set] at hl
          refine .inl ⟨List.getElem?_eq_none (by omega), ?_⟩
          have e3 := ERel.set_inj pre (r' := .any) i er er2
          rw [List.set_eq_of_length_le (by omega), List.set_eq_of_length_le (by rw [← er.len]; omega)] at e3
          subst e3
          refine p ρ2 Mk List.prefix_rfl ?_ mk
          rw [List.set_eq_of_length_le (by omega)]; exact er
      · exact p.elim
    · exact p.elim
/-! stores that are exchanged -/
theorem swap_len {ts vs : List Expr} {k1 : Nat} {p1 : Pos} {k2 : Nat} {p2 : Pos} (h : swapNo ts vs = true) : ∀ env : Env, swappedStores [.Tuple ts k1 p1] (.Tuple vs k2 p2) env = pure none := by
  intro env
  unfold swapNo at h
  unfold swappedStores
  simp only [Bool.or_eq_true, Bool.not_eq_true'] at h
  dsimp only
  split
  · rfl
  · rename_i h1
    split
    · rfl
    · rename_i h2
      split
      · rfl
      · rename_i h3
        split
        · rfl
        · rename_i h4
          exfalso
          rcases h with h | h
          · simp [h] at h1
          · exact h4 h
theorem swap_few {ts vs : List Expr} {k1 : Nat} {p1 : Pos} {k2 : Nat} {p2 : Pos} (h : ((swapNs c ts).length == ts.length) = false) : swappedStores [.Tuple ts k1 p1] (.Tuple vs k2 p2) (dumE c.sc) = pure none := by
  unfold swappedStores
  dsimp only
  split
  · rfl
  · split
    · rfl
    · split
      · rfl
      · rename_i h3
        exfalso
        refine h3 ?_
        show ((swapNs c ts).length != ts.length || (swapNs c ts).eraseDups.length != (swapNs c ts).length) = true
        simp only [bne, h, Bool.not_false, Bool.true_or]
theorem swap_tup {ts : List Expr} {e : Expr} {k1 : Nat} {p1 : Pos} (h : notTup e = true) (env : Env) : swappedStores [.Tuple ts k1 p1] e env = pure none := by
  cases e <;> first | rfl | cases h
theorem swap_yes {ts vs : List Expr} {k1 : Nat} {p1 : Pos} {k2 : Nat} {p2 : Pos} (h : swapOk c ts vs = true) : swappedStores [.Tuple ts k1 p1] (.Tuple vs k2 p2) (dumE c.sc) = pure (some (swapNs c ts)) := by
  unfold swapOk at h
  simp only [Bool.and_eq_true, decide_eq_true_eq, Bool.not_eq_true'] at h
  obtain ⟨⟨⟨⟨⟨⟨⟨h1, h2⟩, h3⟩, h4⟩, h5⟩, h6⟩, h7⟩, h8⟩ := h
  unfold swappedStores
  dsimp only
  have hs : (vs.any fun x => match x with | .Starred _ _ => true | _ => false) = false := by
    rw [List.any_eq_false]
    intro x hx
    have := all_star h4 x hx
    cases x <;> first | (intro z; cases z; done) | cases this
  have bk : (dumE c.sc).blockKind = .function := by
    unfold Env.blockKind
    show (if c.sc.kind.isAnnotationScope = true then ScopeKind.function else c.sc.kind) = _
    rw [h3]; rfl
  refine (if_neg ?_).trans ((if_neg ?_).trans ((if_neg ?_).trans ((if_neg ?_).trans ((if_neg ?_).trans rfl))))
  · rw [h1, bk]
    simp only [bne, h2]
    decide
  · intro z
    exact Bool.noConfusion (hs.symm.trans z)
  · show ¬ ((swapNs c ts).length != ts.length || (swapNs c ts).eraseDups.length != (swapNs c ts).length) = true
    simp only [bne, h5, h6]
    decide
  · rw [h7]; decide
  · rw [h8]; decide
/-! for -/
theorem for_run (x : Ctx X c C k) (hb : c.blk = false) {tg : Expr} {t : Tg} {body : List Stmt} {vb : List S} {W : Watch} {S : Mem → Prop} {D : DE} (ht : cTg c tg = some t) (hbody : SoSs X C body vb) :
    ∀ (items : List Vl) (rs : List Rv) as h ρE ρ M, RelL as items rs → ERel as ρE ρ → MOk as h M → (∀ as2 h2 M2, as <+: as2 → MOk as2 h2 M2 → Still W h2 → S M2) →
      PS X.mg as (forV (fun ρ h => exs C vb ρ h) t W items ρE h) D → ForW X tg body D S rs ρ M := by
  intro items
  have g := so_tg x tg t ht
  rw [(x.fn hb).2] at g
  induction items with
  | nil =>
    intro rs as h ρE ρ M rl er m st p
    cases rl
    rw [forV] at p
    split at p
    · rename_i hst
      exact ⟨st as h M List.prefix_rfl m hst, p as ρ M List.prefix_rfl er m⟩
    · exact p.elim
  | cons a items ih =>
    intro rs as h ρE ρ M rl er m st p
    cases rl with
    | cons ra rl =>
      rw [forV] at p
      split at p
      · rename_i hst
        refine ⟨st as h M List.prefix_rfl m hst, ?_⟩
        split at p
        · exact p.elim
        · rename_i ρ1 e1
          refine g as a _ ρE ρ1 ρ M _ ra er e1 fun ρ' er' => ?_
          refine hbody as h ρ1 ρ' M _ er' m ?_
          have nxt : ∀ ρ2 h2, PS X.mg as (forV (fun ρ h => exs C vb ρ h) t W items ρ2 h2) D → ∀ as' ρ2' M', as <+: as' → ERel as' ρ2 ρ2' → MOk as' h2 M' → ForW X tg body D S _ ρ2' M' := fun ρ2 h2 z as' ρ2' M' pre er2 m2 =>
            ih _ as' h2 ρ2 ρ2' M' (rl.mono pre) er2 m2 (fun as3 h3 M3 pre3 => st as3 h3 M3 (pre.trans pre3)) (z.mono pre)
          cases eb : exs C vb ρ1 h with
          | next ρ2 h2 => simp only [eb] at p; exact nxt ρ2 h2 p
          | cont ρ2 h2 => simp only [eb] at p; exact nxt ρ2 h2 p
          | brk ρ2 h2 => simp only [eb] at p; exact p
          | ret v h2 => simp only [eb] at p; exact p
          | err z ρ2 h2 => simp only [eb] at p; exact p
          | bad => simp only [eb] at p; exact p.elim
      · exact p.elim
theorem evs_len {C : Str → List Vl → Mm → R Vl} : ∀ {es : List E} {ρE : Ev} {h h1 : Mm} {us : List Vl}, evs C es ρE h = .ok us h1 → us.length = es.length
  | [], ρE, h, h1, us, e => by rw [evs] at e; cases e; rfl
  | a :: es, ρE, h, h1, us, e => by
    rw [evs] at e
    cases e1 : ev C a ρE h with
    | ok v g =>
      rw [e1] at e
      simp only [R.bind] at e
      cases e2 : evs C es ρE g with
      | ok vs g2 => rw [e2] at e; simp only [R.bind] at e; cases e; rw [List.length_cons, List.length_cons, evs_len e2]
      | err _ _ => rw [e2] at e; cases e
      | bad => rw [e2] at e; cases e
    | err _ _ => rw [e1] at e; cases e
    | bad => rw [e1] at e; cases e
theorem swap_one {l : Nat} {n : Str} {pp : Pos} {rest : List Expr} (h : ((Expr.Name n pp :: rest).filterMap (swapF c l)).length = rest.length + 1) : (Expr.Name n pp :: rest).filterMap (swapF c l) = n :: rest.filterMap (swapF c l) ∧ c.sc.names.lookup n = some .local := by
  have le := List.length_filterMap_le (swapF c l) rest
  rw [List.filterMap_cons] at h ⊢
  have e : swapF c l (.Name n pp) = if c.sc.names.lookup n == some .local && pp.line == l then some n else none := rfl
  rw [e] at h ⊢
  by_cases hc : (c.sc.names.lookup n == some .local && pp.line == l) = true
  · rw [if_pos hc]
    simp only [Bool.and_eq_true, beq_iff_eq] at hc
    exact ⟨rfl, hc.1⟩
  · rw [if_neg hc] at h
    simp only at h
    omega
theorem dups_two {a b : Str} (h : ([a, b].eraseDups.length == [a, b].length) = true) : a ≠ b := by
  intro e
  subst e
  simp [List.eraseDups_cons] at h
theorem dups_three {a b d : Str} (h : ([a, b, d].eraseDups.length == [a, b, d].length) = true) : a ≠ b ∧ a ≠ d ∧ b ≠ d := by
  refine ⟨fun e => ?_, fun e => ?_, fun e => ?_⟩
  · subst e
    by_cases e : d = a
    · subst e; simp [List.eraseDups_cons] at h
    · simp [List.eraseDups_cons, e] at h
  · subst e
    by_cases e : b = a
    · subst e; simp [List.eraseDups_cons] at h
    · simp [List.eraseDups_cons, e] at h
  · subst e
    by_cases e : b = a
    · subst e; simp [List.eraseDups_cons] at h
    · simp [List.eraseDups_cons, e] at h
/-- a, b = c, d -/
theorem so_par2 (x : Ctx X c C k) (hb : c.blk = false) {n1 n2 : Str} {i j : Nat} {a b : Expr} {va vb : E} {kt k2 : Nat} {px py pt pt2 p : Pos} (hi : slotW c n1 = some i) (hj : slotW c n2 = some j) (hsw : swapOk c [.Name n1 px, .Name n2 py] [a, b] = true) (ha : SoE X C a va) (hbb : SoE X C b vb) :
    SoS X C (.Assign [.Tuple [.Name n1 px, .Name n2 py] kt pt] (.Tuple [a, b] k2 pt2) p) (.par [i, j] [va, vb]) := fun as h ρE ρ M D er m p => by
  have sw := swap_yes (k1 := kt) (p1 := pt) (k2 := k2) (p2 := pt2) hsw
  rw [← swap_scope (e1 := X.env) (e2 := dumE c.sc) x.sc] at sw
  have hsw' := hsw
  unfold swapOk at hsw'
  simp only [Bool.and_eq_true, decide_eq_true_eq, Bool.not_eq_true'] at hsw'
  obtain ⟨⟨⟨⟨⟨⟨⟨h1, h2⟩, h3⟩, h4⟩, h5⟩, h6⟩, h7⟩, h8⟩ := hsw'
  have st := all_star h4
  have nm : swapNs c [.Name n1 px, .Name n2 py] = [n1, n2] ∧ c.sc.names.lookup n1 = some .local ∧ c.sc.names.lookup n2 = some .local := by
    have h5 : (swapNs c [.Name n1 px, .Name n2 py]).length = 2 := by simpa using h5
    unfold swapNs at h5 ⊢
    generalize (Option.map (fun x : Expr => x.pos.line) _).getD 0 = ln at h5 ⊢
    obtain ⟨e1, l1⟩ := swap_one (rest := [.Name n2 py]) h5
    rw [e1] at h5 ⊢
    obtain ⟨e2, l2⟩ := swap_one (rest := []) (by simpa using h5)
    rw [e2]
    exact ⟨rfl, l1, l2⟩
  rw [nm.1] at sw h6
  have v1 := var_of x hb hi
  have v2 := var_of x hb hj
  have hij : i ≠ j := by
    intro e
    subst e
    have e2 := v1.n.symm.trans v2.n
    cases e2
    exact dups_two h6 rfl
  rw [ex] at p
  refine gs_par v1 v2 x.calm x.nd hij (by rw [x.sc]; exact nm.2.1) (by rw [x.sc]; exact nm.2.2) sw (by rw [sole_eq]; exact swap_no rfl) (ga_cons (star_cons (st a (by simp))) (ha as h ρE ρ M _ _ er m ?_))
  have p := ps_bind er p
  rw [evs] at p
  refine (pv_bind p).imp fun as1 u h1 pre q r M1 r1 m1 => ?_
  refine ga_cons (star_cons (st b (by simp))) (hbb as1 h1 ρE ρ M1 _ _ (er.mono pre) m1 ?_)
  have q := pv_bind q
  rw [evs] at q
  refine (pv_bind q).imp fun as2 w h2 pre2 q2 r2 M2 rr2 m2 => ga_nil ⟨r, r2, rfl, ?_⟩
  rw [evs] at q2
  have q2 := q2 as2 List.prefix_rfl as2 List.prefix_rfl
  exact q2 as2 _ M2 List.prefix_rfl (ERel.set (.some rr2) j (ERel.set (.some (r1.mono pre2)) i (er.mono (pre.trans pre2)))) m2
theorem gs_par3 {i j l : Nat} {x y z : Str} {a b d : Expr} {px py pz pt pt2 pos : Pos} {kt k2 : Nat} {ρ : List Rv} {M : Mem} {D : DE} (hx : Var X i x) (hy : Var X j y) (hz : Var X l z) (hc : X.calm = true) (nd : X.N.Nodup) (hij : i ≠ j) (hil : i ≠ l) (hjl : j ≠ l)
    (lx : X.env.scope.names.lookup x = some .local) (ly : X.env.scope.names.lookup y = some .local) (lz : X.env.scope.names.lookup z = some .local)
    (hs : swappedStores [.Tuple [.Name x px, .Name y py, .Name z pz] kt pt] (.Tuple [a, b, d] k2 pt2) X.env = pure (some [x, y, z])) (hw : swapsWithSole [.Tuple [.Name x px, .Name y py, .Name z pz] kt pt] (.Tuple [a, b, d] k2 pt2) pos.line X.env = pure false)
    (h : GA X [a, b, d] ρ M (fun rs M1 => ∃ r q s, rs = [r, q, s] ∧ D.nx (((ρ.set i r).set j q).set l s) M1) D.xx) : GS X (.Assign [.Tuple [.Name x px, .Name y py, .Name z pz] kt pt] (.Tuple [a, b, d] k2 pt2) pos) ρ M D := fun B H σ ok env tk => by
  refine sS_of (ps_par3 hc nd hx.n hy.n hz.n hij hil hjl lx ly lz pa_S hs hw) (args h ok env tk fun vs H1 B1 M1 rs o1 f1 q1 ⟨r, q, s, e, k⟩ => ?_)
  subst e
  cases q1 with
  | cons q1 t => cases t with
    | cons q2 t => cases t with
      | cons q3 t =>
        cases t
        exact ⟨_, _, _, rfl, B1, M1, _, o1, f1, env_set (.some q3) l (env_set (.some q2) j (env_set (.some q1) i (env_mono f1.ex env))), k⟩
theorem so_par3 (x : Ctx X c C k) (hb : c.blk = false) {n1 n2 n3 : Str} {i j l : Nat} {a b d : Expr} {va vb vd : E} {kt k2 : Nat} {px py pz pt pt2 p : Pos} (hi : slotW c n1 = some i) (hj : slotW c n2 = some j) (hl : slotW c n3 = some l) (hsw : swapOk c [.Name n1 px, .Name n2 py, .Name n3 pz] [a, b, d] = true) (ha : SoE X C a va) (hbb : SoE X C b vb) (hd : SoE X C d vd) :
    SoS X C (.Assign [.Tuple [.Name n1 px, .Name n2 py, .Name n3 pz] kt pt] (.Tuple [a, b, d] k2 pt2) p) (.par [i, j, l] [va, vb, vd]) := fun as h ρE ρ M D er m p => by
  have sw := swap_yes (k1 := kt) (p1 := pt) (k2 := k2) (p2 := pt2) hsw
  rw [← swap_scope (e1 := X.env) (e2 := dumE c.sc) x.sc] at sw
  have hsw' := hsw
  unfold swapOk at hsw'
  simp only [Bool.and_eq_true, decide_eq_true_eq, Bool.not_eq_true'] at hsw'
  obtain ⟨⟨⟨⟨⟨⟨⟨h1, h2⟩, h3⟩, h4⟩, h5⟩, h6⟩, h7⟩, h8⟩ := hsw'
  have st := all_star h4
  have nm : swapNs c [.Name n1 px, .Name n2 py, .Name n3 pz] = [n1, n2, n3] ∧ c.sc.names.lookup n1 = some .local ∧ c.sc.names.lookup n2 = some .local ∧ c.sc.names.lookup n3 = some .local := by
    have h5 : (swapNs c [.Name n1 px, .Name n2 py, .Name n3 pz]).length = 3 := by simpa using h5
    unfold swapNs at h5 ⊢
    generalize (Option.map (fun x : Expr => x.pos.line) _).getD 0 = ln at h5 ⊢
    obtain ⟨e1, l1⟩ := swap_one (rest := [.Name n2 py, .Name n3 pz]) h5
    rw [e1] at h5 ⊢
    obtain ⟨e2, l2⟩ := swap_one (rest := [.Name n3 pz]) (by simpa using h5)
    rw [e2] at h5 ⊢
    obtain ⟨e3, l3⟩ := swap_one (rest := []) (by simpa using h5)
    rw [e3]
    exact ⟨rfl, l1, l2, l3⟩
  rw [nm.1] at sw h6
  have v1 := var_of x hb hi
  have v2 := var_of x hb hj
  have v3 := var_of x hb hl
  obtain ⟨d1, d2, d3⟩ := dups_three h6
  have ne : ∀ {p q : Nat} {m1 m2 : Str}, X.N[p]? = some m1 → X.N[q]? = some m2 → m1 ≠ m2 → p ≠ q := fun a b z e => by
    subst e; rw [a] at b; cases b; exact z rfl
  rw [ex] at p
  refine gs_par3 v1 v2 v3 x.calm x.nd (ne v1.n v2.n d1) (ne v1.n v3.n d2) (ne v2.n v3.n d3) (by rw [x.sc]; exact nm.2.1) (by rw [x.sc]; exact nm.2.2.1) (by rw [x.sc]; exact nm.2.2.2) sw (by rw [sole_eq]; exact swap_no rfl) (ga_cons (star_cons (st a (by simp))) (ha as h ρE ρ M _ _ er m ?_))
  have p := ps_bind er p
  rw [evs] at p
  refine (pv_bind p).imp fun as1 u h1 pre q r M1 r1 m1 => ?_
  refine ga_cons (star_cons (st b (by simp))) (hbb as1 h1 ρE ρ M1 _ _ (er.mono pre) m1 ?_)
  have q := pv_bind q
  rw [evs] at q
  refine (pv_bind q).imp fun as2 w h2 pre2 q2 r2 M2 rr2 m2 => ?_
  have q2 := pv_bind q2
  rw [evs] at q2
  refine ga_cons (star_cons (st d (by simp))) (hd as2 h2 ρE ρ M2 _ _ (er.mono (pre.trans pre2)) m2 ((pv_bind q2).imp fun as3 w3 h3 pre3 q3 r3 M3 rr3 m3 => ga_nil ⟨r, r2, r3, rfl, ?_⟩))
  rw [evs] at q3
  have q3 := q3 as3 List.prefix_rfl as3 List.prefix_rfl as3 List.prefix_rfl
  exact q3 as3 _ M3 List.prefix_rfl (ERel.set (.some rr3) l (ERel.set (.some (rr2.mono pre3)) j (ERel.set (.some (r1.mono (pre2.trans pre3))) i (er.mono ((pre.trans pre2).trans pre3))))) m3
end
end IR

set_option Elab.async false
set_option linter.all false
set_option maxRecDepth 100000
set_option maxHeartbeats 4000000
namespace IR
open PySem PySem.Spec PyProof.Rows L2 Dl
section
variable {X : Cx} {c : Cc} {C : Str → List Vl → Mm → R Vl} {k : Nat}
theorem so_setStop {i : Nat} {st : Stmt} : SoS X C st (.set i .stop) := fun as h ρE ρ M D er m p => by
  rw [ex, ev] at p; exact p.elim
theorem so_nil : SoSs X C [] [] := fun as h ρE ρ M D er m p => by
  rw [exs] at p; exact gss_nil (p as ρ M List.prefix_rfl er m)
theorem so_cons {st : Stmt} {ss : List Stmt} {v : S} {vs : List S} (h1 : SoS X C st v) (h2 : SoSs X C ss vs) : SoSs X C (st :: ss) (v :: vs) := fun as h ρE ρ M D er m p => by
  rw [exs] at p
  refine gss_cons (h1 as h ρE ρ M _ er m ?_)
  cases e : ex C v ρE h with
  | next ρ1 h1 => rw [e] at p; exact fun as' ρ2 M' pre er' m' => h2 as' h1 ρ1 ρ2 M' D er' m' (p.mono pre)
  | ret v h1 => rw [e] at p; exact p
  | brk ρ1 h1 => rw [e] at p; exact p
  | cont ρ1 h1 => rw [e] at p; exact p
  | err z ρ1 h1 => rw [e] at p; exact p
  | bad => rw [e] at p; exact p.elim
theorem so_if {t : Expr} {a b : List Stmt} {vt : E} {va vb : List S} {p : Pos} (ht : SoT X C t vt) (ha : SoSs X C a va) (hb : SoSs X C b vb) : SoS X C (.If t a b p) (.ife vt va vb) := fun as h ρE ρ M D er m q => by
  rw [ex] at q
  refine gs_if (ht as h ρE ρ M _ _ er m ((ps_bind er q).imp fun as1 u h1 pre z M1 m1 => ⟨fun e => ?_, fun e => ?_⟩))
  · subst e; exact ha as1 h1 ρE ρ M1 D (er.mono pre) m1 z
  · subst e; exact hb as1 h1 ρE ρ M1 D (er.mono pre) m1 z
theorem so_ret {e : Expr} {v : E} {p : Pos} (he : SoE X C e v) : SoS X C (.Return (some e) p) (.ret v) := fun as h ρE ρ M D er m q => by
  rw [ex] at q
  exact gs_ret (he as h ρE ρ M _ _ er m ((ps_bind er q).imp fun as1 u h1 pre z r M1 r1 m1 => z as1 r M1 List.prefix_rfl r1 m1))
theorem so_retN {p : Pos} : SoS X C (.Return none p) .retN := fun as h ρE ρ M D er m q => by
  rw [ex] at q
  exact gs_retN (q as _ M List.prefix_rfl .non m)
theorem so_expr {e : Expr} {v : E} {p : Pos} (hn : notComp e = true) (he : SoE X C e v) : SoS X C (.Expr e p) (.expr v) := fun as h ρE ρ M D er m q => by
  rw [ex] at q
  exact gs_expr (swap_no hn) (he as h ρE ρ M _ _ er m ((ps_bind er q).imp fun as1 u h1 pre z r M1 r1 m1 => z as1 ρ M1 List.prefix_rfl (er.mono pre) m1))
theorem so_for (x : Ctx X c C k) (hb : c.blk = false) (hp : PassesOwn (model X.prog X.w) X.A X.env X.xe) {tg it : Expr} {t : Tg} {vit : E} {body : List Stmt} {vb : List S} {p : Pos} (ht : cTg c tg = some t) (hs : notSet it = true) (hit : SoI X C tg it vit) (hbody : SoSs X C body vb) :
    SoS X C (.For tg it body [] p) (.forS t vit vb) := fun as h ρE ρ M D er m q => by
  rw [ex] at q
  refine gs_forW hp x.calm (fold_no hs _) (hit as h ρE ρ M _ _ er m ((ps_bind er q).imp fun as1 w h1 pre z rs S M1 rl m1 st => ?_))
  exact for_run x hb ht hbody w.1 rs as1 h1 ρE ρ M1 rl (er.mono pre) m1 st z
theorem tgs_two {n1 n2 : Str} {px py : Pos} {tgs : List Tg} (h : cTgs c [.Name n1 px, .Name n2 py] = some tgs) : ∃ i j, slotW c n1 = some i ∧ slotW c n2 = some j ∧ tgs = [.nm i, .nm j] := by
  simp only [cTgs, cTg] at h
  cases e1 : slotW c n1 with
  | none => simp [e1] at h
  | some i => cases e2 : slotW c n2 with
    | none => simp [e1, e2] at h
    | some j => simp [e1, e2] at h; exact ⟨i, j, rfl, rfl, h.symm⟩
theorem tgs_three {n1 n2 n3 : Str} {px py pz : Pos} {tgs : List Tg} (h : cTgs c [.Name n1 px, .Name n2 py, .Name n3 pz] = some tgs) : ∃ i j l, slotW c n1 = some i ∧ slotW c n2 = some j ∧ slotW c n3 = some l ∧ tgs = [.nm i, .nm j, .nm l] := by
  simp only [cTgs, cTg] at h
  cases e1 : slotW c n1 with
  | none => simp [e1] at h
  | some i => cases e2 : slotW c n2 with
    | none => simp [e1, e2] at h
    | some j => cases e3 : slotW c n3 with
      | none => simp [e1, e2, e3] at h
      | some l => simp [e1, e2, e3] at h; exact ⟨i, j, l, rfl, rfl, rfl, h.symm⟩
theorem so_mV {e : Expr} {r : Cr} (i : Nat) (h : SoAll X c C e r) : SoE X C e (mV c i r) := by
  unfold mV; split
  · exact h.2.2.2
  · exact h.1
theorem so_rV {e : Expr} {r : Cr} (h : SoAll X c C e r) : SoE X C e (rV c r) := by
  unfold rV; split
  · exact h.2.2.2
  · exact h.1
theorem so_L (x : Ctx X c C k) : ∀ es : List Expr, SoL X C es (cEs c es)
  | [] => trivial
  | e :: es => ⟨(snd C k e X c x).1, so_L x es⟩
theorem so_mL (x : Ctx X c C k) : ∀ (es : List Expr) (is : List Nat), es.length = is.length → SoL X C es (mVs c is es)
  | [], [], _ => trivial
  | [], _ :: _, h => by simp at h
  | _ :: _, [], h => by simp at h
  | e :: es, i :: is, h => ⟨so_mV i (snd C k e X c x), so_mL x es is (by simpa using h)⟩
theorem nameE_of {e : Expr} (h : nameE e = true) : ∃ n p, e = .Name n p := by cases e <;> first | exact ⟨_, _, rfl⟩ | cases h
theorem so_tupTup (x : Ctx X c C k) (hb : c.blk = false) {ts vs : List Expr} {k1 k2 : Nat} {p1 p2 p : Pos} : SoS X C (.Assign [.Tuple ts k1 p1] (.Tuple vs k2 p2) p) (cS c (.Assign [.Tuple ts k1 p1] (.Tuple vs k2 p2) p)) := by
  have hc : cS c (.Assign [.Tuple ts k1 p1] (.Tuple vs k2 p2) p) = (match cTgs c ts with
    | some tgs => if swapNo ts vs || !((swapNs c ts).length == ts.length) then (if vs.all notStar then .tset (.tup tgs) (.tup (if ts.all nameE && decide (vs.length = (tgs.filterMap nmOf).length) then mVs c (tgs.filterMap nmOf) vs else cEs c vs)) else .stop)
      else if swapOk c ts vs && ts.all nameE then .par (tgs.filterMap nmOf) (mVs c (tgs.filterMap nmOf) vs)
      else .stop
    | none => .stop) := rfl
  rw [hc]
  cases ht : cTgs c ts with
  | none => exact so_sstop
  | some tgs =>
    dsimp only
    cases h1 : (swapNo ts vs || !((swapNs c ts).length == ts.length)) with
    | true =>
      rw [if_pos rfl]
      have hsw : swappedStores [.Tuple ts k1 p1] (.Tuple vs k2 p2) X.env = pure none := by
        rw [Bool.or_eq_true] at h1
        rcases h1 with h1 | h1
        · exact swap_len h1 _
        · rw [swap_scope (e1 := X.env) (e2 := dumE c.sc) x.sc]
          exact swap_few (by simpa using h1)
      cases hn : vs.all notStar with
      | false => exact so_sstop
      | true =>
        refine so_asg x hb ht rfl hsw ?_
        split
        · rename_i hh
          rw [Bool.and_eq_true, decide_eq_true_eq] at hh
          exact so_tupL x hn (so_mL x vs _ hh.2)
        · exact so_tupL x hn (so_L x vs)
    | false =>
      rw [if_neg (by decide)]
      cases h2 : (swapOk c ts vs && ts.all nameE) with
      | false => exact so_sstop
      | true =>
        rw [if_pos rfl]
        rw [Bool.and_eq_true] at h2
        obtain ⟨h2, h3⟩ := h2
        have h2' := h2
        unfold swapOk at h2'
        simp only [Bool.and_eq_true] at h2'
        have l1 := h2'.1.1.1.1.1.1.1
        have l2 := h2'.1.1.1.1.1.1.2
        rcases ts with _ | ⟨t1, _ | ⟨t2, _ | ⟨t3, _ | ⟨t4, ts⟩⟩⟩⟩
        · simp at l1
        · simp at l1
        · rcases vs with _ | ⟨a, _ | ⟨b, _ | ⟨d, vs⟩⟩⟩
          · simp at l2
          · simp at l2
          · simp only [List.all_cons, List.all_nil, Bool.and_true, Bool.and_eq_true] at h3
            obtain ⟨n1, q1, rfl⟩ := nameE_of h3.1
            obtain ⟨n2, q2, rfl⟩ := nameE_of h3.2
            obtain ⟨i, j, e1, e2, rfl⟩ := tgs_two ht
            exact so_par2 x hb e1 e2 h2 (so_mV i (snd C k a X c x)) (so_mV j (snd C k b X c x))
          · simp at l2
        · rcases vs with _ | ⟨a, _ | ⟨b, _ | ⟨d, _ | ⟨d2, vs⟩⟩⟩⟩
          · simp at l2
          · simp at l2
          · simp at l2
          · simp only [List.all_cons, List.all_nil, Bool.and_true, Bool.and_eq_true] at h3
            obtain ⟨n1, q1, rfl⟩ := nameE_of h3.1
            obtain ⟨n2, q2, rfl⟩ := nameE_of h3.2.1
            obtain ⟨n3, q3, rfl⟩ := nameE_of h3.2.2
            obtain ⟨i, j, l, e1, e2, e3, rfl⟩ := tgs_three ht
            exact so_par3 x hb e1 e2 e3 h2 (so_mV i (snd C k a X c x)) (so_mV j (snd C k b X c x)) (so_mV l (snd C k d X c x))
          · simp at l2
        · simp at l1
theorem so_tupE (x : Ctx X c C k) (hb : c.blk = false) {ts : List Expr} {e : Expr} {k1 : Nat} {p1 p : Pos} (hc : cS c (.Assign [.Tuple ts k1 p1] e p) = (if notTup e && notComp e then match cTgs c ts with
      | some tgs => .tset (.tup tgs) (cE c e).v
      | none => .stop
    else .stop)) : SoS X C (.Assign [.Tuple ts k1 p1] e p) (cS c (.Assign [.Tuple ts k1 p1] e p)) := by
  rw [hc]
  cases h : (notTup e && notComp e) with
  | false => exact so_sstop
  | true =>
    rw [Bool.and_eq_true] at h
    rw [if_pos rfl]
    cases ht : cTgs c ts with
    | none => exact so_sstop
    | some tgs => exact so_asg x hb ht h.2 (swap_tup h.1 _) (snd C k e X c x).1
theorem so_nameLc (x : Ctx X c C k) (hb : c.blk = false) {n : Str} {elt tg it : Expr} {ifs : List Expr} {scope : Scope} {py pos p : Pos} {i : Nat} (hi : slotW c n = some i)
    (hh : (decide (c.sc.kind = .function) && decide (c.sc.names.lookup n = some .local) && (py.line == pos.line) && !(scope.names.any fun (m, k) => m == n && (k == .local || k == .cell))) = true) :
    SoS X C (.Assign [.Name n py] (.ListComp elt [⟨tg, it, ifs, 0⟩] scope pos) p) (.set i (mV c i (cE c (.ListComp elt [⟨tg, it, ifs, 0⟩] scope pos)))) := by
  have hc : cE c (.ListComp elt [⟨tg, it, ifs, 0⟩] scope pos) = lcC c scope tg it ifs (cE c it).i (cTs (blkOf c scope) ifs) (cE (blkOf c scope) elt).v := rfl
  rw [hc]
  have stop2 : SoS X C (.Assign [.Name n py] (.ListComp elt [⟨tg, it, ifs, 0⟩] scope pos) p) (.set i (mV c i stp)) := by
    unfold mV
    split <;> exact so_setStop
  unfold lcC
  cases ht : cTg (blkOf c scope) tg with
  | none => exact stop2
  | some t =>
    dsimp only
    cases h2 : (blkC c.N c.sc scope (ownC c scope) && !(ownC c scope).isEmpty && notSet it && decide (ifs.length ≤ 1) && itOk (isTup tg) (cE c it).i) with
    | false => exact stop2
    | true =>
      rw [if_pos rfl]
      simp only [Bool.and_eq_true, decide_eq_true_eq, Bool.not_eq_true'] at h2 hh
      obtain ⟨⟨⟨⟨h1, h2⟩, h3⟩, h4⟩, h5⟩ := h2
      obtain ⟨⟨⟨g1, g2⟩, g3⟩, g4⟩ := hh
      have b := x.block scope
      have main := so_setLc (p := p) x hb hi g1 g2 g3 g4 h1 h2 h3 h4 ((snd C k it X c x).2.2.1 tg h5) (fun s H Cc cl fp => so_tg (b s H Cc cl fp) tg t ht) (fun e _ s H Cc cl fp => (snd C k e _ _ (b s H Cc cl fp)).2.1) (fun s H Cc cl fp => (snd C k elt _ _ (b s H Cc cl fp)).1)
      unfold mV Cc.fz
      dsimp only
      split
      · exact main
      · split
        · exact so_setF main
        · exact main
theorem so_pass {p : Pos} : SoS X C (.Pass p) .pass := fun as h ρE ρ M D er m q => by
  rw [ex] at q
  exact gs_pass (q as ρ M List.prefix_rfl er m)
theorem so_brk {p : Pos} : SoS X C (.Break p) .brk := fun as h ρE ρ M D er m q => by
  rw [ex] at q
  exact gs_break (q as ρ M List.prefix_rfl er m)
theorem so_cont {p : Pos} : SoS X C (.Continue p) .cont := fun as h ρE ρ M D er m q => by
  rw [ex] at q
  exact gs_cont (q as ρ M List.prefix_rfl er m)
theorem sndS_n (x : Ctx X c C k) (hb : c.blk = false) (hp : PassesOwn (model X.prog X.w) X.A X.env X.xe) : ∀ n, (∀ st : Stmt, sizeOf st < n → SoS X C st (cS c st)) ∧ (∀ ss : List Stmt, sizeOf ss < n → SoSs X C ss (cSs c ss)) := by
  intro n
  induction n with
  | zero => exact ⟨fun _ h => by omega, fun _ h => by omega⟩
  | succ n ih =>
    refine ⟨fun st hlt => ?_, fun ss hlt => ?_⟩
    · cases st with
      | Assign ts e p =>
        rcases ts with _ | ⟨t, _ | ⟨t2, ts⟩⟩
        · exact so_sstop
        · cases t with
          | Name n py =>
            have hc : cS c (.Assign [.Name n py] e p) = (match slotW c n with
              | some i => if notComp e then .set i (mV c i (cE c e)) else if lcOk c n py e then .set i (mV c i (cE c e)) else .stop
              | none => .stop) := rfl
            rw [hc]
            cases hi : slotW c n with
            | none => exact so_sstop
            | some i =>
              dsimp only
              cases hn : notComp e with
              | true => exact so_set x hb hi hn (so_mV i (snd C k e X c x))
              | false =>
                rw [if_neg (by decide)]
                cases e with
                | ListComp elt gs scope pos =>
                  cases hh : lcOk c n py (.ListComp elt gs scope pos) with
                  | false => exact so_sstop
                  | true =>
                    rw [if_pos rfl]
                    rcases gs with _ | ⟨⟨tg, it, ifs, asy⟩, _ | ⟨g2, gs⟩⟩
                    · cases hh
                    · by_cases ha : asy = 0
                      · subst ha
                        exact so_nameLc x hb hi hh
                      · cases asy with
                        | ofNat z => cases z with
                          | zero => exact absurd rfl ha
                          | succ z => cases hh
                        | negSucc z => cases hh
                    · cases asy with
                      | ofNat z => cases z <;> cases hh
                      | negSucc z => cases hh
                | _ => first | exact so_sstop | cases hn
          | Tuple ts k1 p1 =>
            cases e with
            | Tuple vs k2 p2 => exact so_tupTup x hb
            | _ => exact so_tupE x hb rfl
          | Subscript o i p1 =>
            have hc : cS c (.Assign [.Subscript o i p1] e p) = if notComp e && notSlice i && notTup i then .setix (cE c o).v (cE c i).v (cE c e).v else .stop := rfl
            rw [hc]
            cases h : (notComp e && notSlice i && notTup i) with
            | false => exact so_sstop
            | true =>
              simp only [Bool.and_eq_true] at h
              exact so_setix x h.1.1 h.1.2 (snd C k o X c x).1 (snd C k i X c x).1 (snd C k e X c x).1
          | _ => exact so_sstop
        · cases t <;> first | exact so_sstop | (cases e <;> exact so_sstop)
      | If t a b p =>
        simp at hlt
        exact so_if (snd C k t X c x).2.1 (ih.2 a (by omega)) (ih.2 b (by omega))
      | For tg it body els p =>
        cases els with
        | nil =>
          simp at hlt
          have hc : cS c (.For tg it body [] p) = (match cTg c tg with
            | some t => if notSet it && itOk (isTup tg) (cE c it).i then .forS t (cE c it).i (cSs c body) else .stop
            | none => .stop) := rfl
          rw [hc]
          cases ht : cTg c tg with
          | none => exact so_sstop
          | some t =>
            dsimp only
            cases h : (notSet it && itOk (isTup tg) (cE c it).i) with
            | false => exact so_sstop
            | true =>
              rw [Bool.and_eq_true] at h
              exact so_for x hb hp ht h.1 ((snd C k it X c x).2.2.1 tg h.2) (ih.2 body (by omega))
        | cons a b => exact so_sstop
      | Return v p =>
        cases v with
        | none => exact so_retN
        | some e => exact so_ret (so_rV (snd C k e X c x))
      | Expr e p =>
        have hc : cS c (.Expr e p) = if notComp e then .expr (cE c e).v else .stop := rfl
        rw [hc]
        cases h : notComp e with
        | false => exact so_sstop
        | true => exact so_expr h (snd C k e X c x).1
      | Pass p => exact so_pass
      | Break p => exact so_brk
      | Continue p => exact so_cont
      | _ => exact so_sstop
    · cases ss with
      | nil => exact so_nil
      | cons s ss =>
        simp at hlt
        exact so_cons (ih.1 s (by omega)) (ih.2 ss (by omega))
theorem sndSs (x : Ctx X c C k) (hb : c.blk = false) (hp : PassesOwn (model X.prog X.w) X.A X.env X.xe) (ss : List Stmt) : SoSs X C ss (cSs c ss) := (sndS_n x hb hp (sizeOf ss + 1)).2 ss (by omega)
end
end IR

set_option Elab.async false
set_option linter.all false
set_option maxRecDepth 100000
set_option maxHeartbeats 4000000
namespace IR
open PySem PySem.Spec PyProof.Rows L2 Dl
structure FnI where
  x : Str
  st : Stmt
  N : List Str
  ps : List Str
  ords : List (List Str)
  mu : List Nat := []
  rm : Bool := false
structure Pg where
  tab : List FnI
  cons : List (Str × Int)
  bts : List Str
  fr : Bool := false
  nf : List Str := []
def Pg.cc (G : Pg) (fi : FnI) : Cc := { N := fi.N, sc := defScope fi.st, vs := [], blk := false, fns := G.tab.map fun g => (g.x, (g.ps, g.ords)), cons := G.cons, bts := G.bts, fr := G.fr, nf := G.nf, mu := fi.mu, rm := fi.rm }
def Pg.fn (G : Pg) (fi : FnI) : Fn := { n := fi.N.length, ps := fi.ps.length, body := cSs (G.cc fi) (defBody fi.st) }
def Pg.at (G : Pg) (x : Str) : Option FnI := G.tab.find? fun g => g.x == x
def Pg.T (G : Pg) : Str → Option Fn := fun x => (G.at x).map G.fn
structure FnWf (fi : FnI) : Prop where
  sc : FnScope fi.N fi.ps (defScope fi.st)
  d : (fi.x == ("__debug__" : Str)) = false
  b1 : ∀ (kV dc pm : Value) (an : Option Addr) (cd ct : Value) (us : List Value), us.length = fi.ps.length → bindArgs (PySem.W.fnOf fi.x fi.x (defArgs fi.st) (defBody fi.st) (defScope fi.st) .none kV dc pm an cd ct) ⟨us, []⟩ = pure (fi.ps.zip us)
  b2 : ∀ (kV dc pm : Value) (an : Option Addr) (cd ct : Value), ∀ ks ∈ fi.ords, ∀ ws : List Value, ws.length = ks.length → bindArgs (PySem.W.fnOf fi.x fi.x (defArgs fi.st) (defBody fi.st) (defScope fi.st) .none kV dc pm an cd ct) ⟨[], ks.zip ws⟩ = pure (fi.ps.zip (pick ks fi.ps ws))
theorem at_lookup {tab : List FnI} {x : Str} {ps : List Str} {ords : List (List Str)} (h : (tab.map fun g => (g.x, (g.ps, g.ords))).lookup x = some (ps, ords)) : ∃ fi, tab.find? (fun g => g.x == x) = some fi ∧ fi.ps = ps ∧ fi.ords = ords ∧ fi.x = x := by
  induction tab with
  | nil => cases h
  | cons g tab ih =>
    rw [List.map_cons, List.lookup_cons] at h
    rw [List.find?_cons]
    by_cases e : g.x = x
    · subst e
      simp only [beq_self_eq_true] at h ⊢
      cases h
      exact ⟨g, rfl, rfl, rfl, rfl⟩
    · have e1 : (x == g.x) = false := by simpa using fun z => e z.symm
      have e2 : (g.x == x) = false := by simpa using e
      rw [e1] at h
      rw [e2]
      exact ih h
section
variable {P : Program} {w : World} {K : Frg} {mg : Str → Option Value} {base : Heap} {G : Pg}
theorem call_arity {T : Str → Option Fn} {f : Str} {fn : Fn} (hT : T f = some fn) {k : Nat} {xs : List Vl} {h : Mm} (hl : xs.length ≠ fn.ps) : call T k f xs h = .bad := by
  cases k with
  | zero => rfl
  | succ k => rw [call, hT]; exact if_neg fun z => hl z.1
theorem fn_step {k : Nat} {fi : FnI} {f : Addr} {fd : FuncData} (hc : ∀ x v, G.cons.lookup x = some v → GloG mg x (.int v)) (hb : ∀ x ∈ G.bts, mg x = none)
    (ih : ∀ x fi, G.at x = some fi → DefG P w K mg base x k fi.ps fi.ords (pdI mg (call G.T k) x fi.ps.length)) (hx : G.at fi.x = some fi) (W : FnWf fi) (F : L2.Fun K fi.x fi.x fi.st f fd) :
    FnD P w K mg base (k + 1) f fd fi.ps (pdI mg (call G.T (k + 1)) fi.x fi.ps.length) := by
    have hT : G.T fi.x = some (G.fn fi) := by unfold Pg.T; rw [hx]; rfl
    have hpre : fi.ps.length ≤ fi.N.length := by
      have := congrArg List.length W.sc.pre
      rw [List.length_take] at this
      omega
    refine Fun.okD (List.replicate (fi.N.length - fi.ps.length) .any) F W.sc (by rw [List.length_replicate]) (by rw [List.all_eq_true]; intro r hr; rw [List.eq_of_mem_replicate hr]; rfl) (fun rs M Φ Ξ q => q.1) ?_
    intro X hP hw hK hmg hbase cx hr rs M Φ Ξ ⟨hl, as, vs, h, rl, m, p⟩
    subst hP hw hK hmg hbase
    have cxx : Ctx X (G.cc fi) (call G.T k) k := by
      refine ⟨cx.hN, cx.sc, cx.nd, cx.calm, cx.gu, hr, fun f ps ords hf => ?_, fun y v e => (hc y v e).glo, hb, fun _ => ⟨cx.fn, rfl⟩⟩
      obtain ⟨fi2, e1, e2, e3, e4⟩ := at_lookup hf
      have d := (ih f fi2 e1).df (Nat.le_refl k)
      rw [e2, e3] at d
      refine ⟨d, fun xs h hne => call_arity (fn := G.fn fi2) (by unfold Pg.T Pg.at; rw [e1]; rfl) (by show _ ≠ fi2.ps.length; rw [e2]; exact hne)⟩
    rw [call, hT] at p
    dsimp only at p
    split at p
    · refine sndSs cxx rfl cx.pass (defBody fi.st) as h _ (rs ++ List.replicate (fi.N.length - fi.ps.length) .any) M _ (ERel.start rl _) m ?_
      show PS X.mg as (exs (call G.T k) (cSs (G.cc fi) (defBody fi.st)) (vs.map some ++ List.replicate (fi.N.length - fi.ps.length) none) h) _
      have e : (G.fn fi).body = cSs (G.cc fi) (defBody fi.st) := rfl
      have e2 : (G.fn fi).n - (G.fn fi).ps = fi.N.length - fi.ps.length := rfl
      rw [e, e2] at p
      cases er : exs (call G.T k) (cSs (G.cc fi) (defBody fi.st)) (vs.map some ++ List.replicate (fi.N.length - fi.ps.length) none) h with
      | next ρ1 h1 => rw [er] at p; exact fun as' ρ2 M' pre _ m' => p as' pre _ M' .non m'
      | ret v h1 => rw [er] at p; exact fun as' r M' pre rr m' => p as' pre r M' rr m'
      | brk ρ1 h1 => rw [er] at p; exact p.elim
      | cont ρ1 h1 => rw [er] at p; exact p.elim
      | err z ρ1 h1 => rw [er] at p; exact fun as' e ρ2 M' pre q _ m' => p as' e M' pre q m'
      | bad => rw [er] at p; exact p.elim
    · exact p.elim
theorem prog_fn (hF : ∀ fi ∈ G.tab, ∃ (f : Addr) (kV dc pm : Value) (an : Option Addr) (cd ct : Value), L2.Fun K fi.x fi.x fi.st f (PySem.W.fnOf fi.x fi.x (defArgs fi.st) (defBody fi.st) (defScope fi.st) .none kV dc pm an cd ct) ∧ mg fi.x = some (.ref f) ∧ PySem.W.keepIn K (.ref f) = true)
    (hW : ∀ fi ∈ G.tab, FnWf fi) (hc : ∀ x v, G.cons.lookup x = some v → GloG mg x (.int v)) (hb : ∀ x ∈ G.bts, mg x = none) :
    ∀ k x fi, G.at x = some fi → DefG P w K mg base x k fi.ps fi.ords (pdI mg (call G.T k) x fi.ps.length) := by
  intro k
  induction k with
  | zero =>
    intro x fi hx
    have hm := List.mem_of_find?_eq_some hx
    have ex : fi.x = x := by simpa using List.find?_some hx
    obtain ⟨f, kV, dc, pm, an, cd, ct, F, h1, h2⟩ := hF fi hm
    have W := hW fi hm
    subst ex
    refine ⟨⟨f, _, ⟨fun rs M Φ Ξ q => q.1, fun A outer s H ar us vs Q E hr hg e0 hb r ⟨B, M, rs, Φ, Ξ, o, a, ⟨_, as, ws, hh, _, _, p⟩, _⟩ => p.elim⟩, h1, h2, W.b1 kV dc pm an cd ct, W.b2 kV dc pm an cd ct⟩, W.d⟩
  | succ k ih =>
    intro x fi hx
    have hm := List.mem_of_find?_eq_some hx
    have ex : fi.x = x := by simpa using List.find?_some hx
    obtain ⟨f, kV, dc, pm, an, cd, ct, F, h1, h2⟩ := hF fi hm
    have W := hW fi hm
    subst ex
    exact ⟨⟨f, _, fn_step hc hb ih hx W F, h1, h2, W.b1 kV dc pm an cd ct, W.b2 kV dc pm an cd ct⟩, W.d⟩
end
def pdLaw (n : Nat) : Prom := fun rs M Φ _ => ∃ ns : List Int, rs = [.d (dI ns)] ∧ ns.length ≤ n ∧ M = [] ∧ ∀ M', Φ (.d (.bool true)) M'
theorem law_mk {l : PySem.W.OpenLaw} {w : World} {K : Frg} {h : Heap} {mg : Str → Option Value} {fa : Addr} {n kk : Nat} {G : Pg} {law : FnI} (X : K.In h) (Gn : h.Ns mainGlobals mg) (hfa : mg "law" = some (.ref fa))
    (hI : ∀ fi ∈ G.tab, FunIn K fi.x fi.x fi.st) (hJ : ∀ p ∈ G.cons, ConIn K p.1 (.int p.2) ∧ (p.1 == ("__debug__" : Str)) = false) (hZ : ∀ x ∈ G.bts, PySem.W.nsIn K mainGlobals x = some none) (hW : ∀ fi ∈ G.tab, FnWf fi)
    (hlaw : G.at "law" = some law) (hps : law.ps = [("script" : Str)]) (hR : ∀ ns : List Int, ns.length ≤ n → ∃ h', call G.T (kk + 1) "law" [.frz ns] [] = .ok (.bl true) h') :
    ∃ fd : FuncData, (∀ (s : Shared) (v : Value), BindsTo s fd ⟨[v], []⟩ [("script", v)]) ∧ ∀ base : Heap, K.In base → base.Ns mainGlobals mg → FnD l.prog w K mg base (kk + 1) fa fd ["script"] (pdLaw n) := by
  have hc : ∀ x v, G.cons.lookup x = some v → GloG mg x (.int v) := fun x v e => by
    have hm : (x, v) ∈ G.cons := by
      have : ∀ (xs : List (Str × Int)), xs.lookup x = some v → (x, v) ∈ xs := by
        intro xs
        induction xs with
        | nil => intro e; cases e
        | cons a xs ih =>
          intro e
          rw [List.lookup_cons] at e
          by_cases z : x = a.1
          · subst z; simp only [beq_self_eq_true] at e; cases e; simp
          · have z' : (x == a.1) = false := by simpa using z
            rw [z'] at e
            exact List.mem_cons_of_mem _ (ih e)
      exact this _ e
    obtain ⟨j, d⟩ := hJ _ hm
    exact j.glo X Gn d
  have hF : ∀ fi ∈ G.tab, ∃ (f : Addr) (kV dc pm : Value) (an : Option Addr) (cd ct : Value), L2.Fun K fi.x fi.x fi.st f (PySem.W.fnOf fi.x fi.x (defArgs fi.st) (defBody fi.st) (defScope fi.st) .none kV dc pm an cd ct) ∧ mg fi.x = some (.ref f) ∧ PySem.W.keepIn K (.ref f) = true := fun fi hm => by
    obtain ⟨f, _, _, an, _, kV, dc, pm, cd, ct, a, l, q, kp⟩ := hI fi hm
    exact ⟨f, kV, dc, pm, an, cd, ct, fun_mk (st := fi.st) l q kp, PySem.W.mg_of X Gn a, kp⟩
  have hb : ∀ x ∈ G.bts, mg x = none := fun x hx => PySem.W.mg_none_of X Gn (hZ x hx)
  have ex : law.x = "law" := by simpa using List.find?_some hlaw
  have hm := List.mem_of_find?_eq_some hlaw
  have W := hW law hm
  obtain ⟨f0, _, _, an, _, kV, dc, pm, cd, ct, a0, l0, q0, kp0⟩ := hI law hm
  have F0 := fun_mk (st := law.st) l0 q0 kp0
  have g0 := PySem.W.mg_of X Gn a0
  rw [ex] at g0
  have e := hfa.symm.trans g0
  cases e
  refine ⟨PySem.W.fnOf law.x law.x (defArgs law.st) (defBody law.st) (defScope law.st) .none kV dc pm an cd ct, fun s v => .of_eq ?_, fun base _ _ => ?_⟩
  · have := W.b1 kV dc pm an cd ct [v] (by rw [hps]; rfl)
    rw [hps] at this
    exact this
  · have st := fn_step (P := l.prog) (w := w) (base := base) hc hb (prog_fn hF hW hc hb kk) (by rw [ex]; exact hlaw) W F0
    rw [hps] at st
    refine st.imp fun rs M Φ Ξ ⟨ns, e1, hl, e2, q⟩ => ?_
    subst e1 e2
    obtain ⟨h', eR⟩ := hR ns hl
    refine ⟨rfl, [], [.frz ns], [], .cons (.frz ns) .nil, ⟨[], .nil, rfl, rfl⟩, ?_⟩
    rw [ex, eR]
    intro as' pre r M' rr m'
    cases rr
    exact q M'
end IR

set_option Elab.async false
set_option linter.all false
set_option maxRecDepth 100000
set_option maxHeartbeats 4000000
namespace IR
open PySem PySem.Spec PyProof.Rows L2 Dl
/-! ## what is wished of a run, without errors -/
/-- a mark by which a rest of a run is not looked into -/
def Hid {β : Type} (_ : β) : Type := Unit
def R.wp {α : Type} (r : R α) (Q : α → Mm → Prop) (_ : Hid Q := ()) : Prop := match r with
  | .ok a h => Q a h
  | _ => False
structure Sk where
  nx : Ev → Mm → Prop
  rt : Vl → Mm → Prop
  bk : Ev → Mm → Prop
  ct : Ev → Mm → Prop
def RS.wp (r : RS) (D : Sk) (_ : Hid D := ()) : Prop := match r with
  | .next ρ h => D.nx ρ h
  | .ret v h => D.rt v h
  | .brk ρ h => D.bk ρ h
  | .cont ρ h => D.ct ρ h
  | _ => False
/-- a test -/
theorem wp_ext {α : Type} {r : R α} {Q Q' : α → Mm → Prop} (h : ∀ a m, Q a m = Q' a m) : r.wp Q = r.wp Q' := by
  have e : Q = Q' := by funext a m; exact h a m
  subst e; rfl
def Br (b : Bool) (A B : Prop) (_ : Hid (A, B) := ()) : Prop := match b with
  | true => A
  | false => B
theorem br_mk {b : Bool} {A B : Prop} (h1 : b = true → A) (h2 : b = false → B) : Br b A B := by
  cases b
  · exact h2 rfl
  · exact h1 rfl
theorem br_t {A B : Prop} : Br true A B = A := id rfl
theorem br_f {A B : Prop} : Br false A B = B := id rfl
section
variable {α β : Type} {C : Str → List Vl → Mm → R Vl} {ρ : Ev} {h : Mm} {Q : Vl → Mm → Prop} {QB : Bool → Mm → Prop} {D : Sk}
theorem wp_ok {a : α} {Q : α → Mm → Prop} : (R.ok a h).wp Q = Q a h := id rfl
theorem wp_bind {r : R α} {f : α → Mm → R β} {Q : β → Mm → Prop} : (r.bind f).wp Q = r.wp fun a h => (f a h).wp Q := by
  cases r <;> rfl
theorem wp_bindS {r : R α} {f : α → Mm → RS} : (r.bindS ρ f).wp D = r.wp fun a h => (f a h).wp D := by
  cases r <;> rfl
theorem wp_mono {r : R α} {Q Q' : α → Mm → Prop} (p : r.wp Q) (k : ∀ a h, Q a h → Q' a h) : r.wp Q' := by
  cases r with
  | ok a h => exact k _ _ p
  | _ => exact p
theorem wp_next : (RS.next ρ h).wp D = D.nx ρ h := id rfl
theorem wp_ret {v : Vl} : (RS.ret v h).wp D = D.rt v h := id rfl
theorem wp_brk : (RS.brk ρ h).wp D = D.bk ρ h := id rfl
theorem wp_cont : (RS.cont ρ h).wp D = D.ct ρ h := id rfl
theorem wp_if {c : Prop} [Decidable c] {a b : R α} {Q : α → Mm → Prop} : (if c then a else b).wp Q = Br (decide c) (a.wp Q) (b.wp Q) := by
  by_cases hc : c
  · rw [if_pos hc, decide_eq_true hc]; rfl
  · rw [if_neg hc, decide_eq_false hc]; rfl
theorem wp_guard {c : Prop} [Decidable c] {a : R α} {Q : α → Mm → Prop} (hc : c) : (if c then a else .bad).wp Q = a.wp Q := by rw [if_pos hc]
/-! expressions -/
theorem w_int {i : Int} : (ev C (.int i) ρ h).wp Q = Q (.int i) h := id rfl
theorem w_bl {i : Bool} : (ev C (.bl i) ρ h).wp Q = Q (.bl i) h := id rfl
theorem w_non : (ev C .non ρ h).wp Q = Q .non h := id rfl
theorem w_str {i : Str} : (ev C (.str i) ρ h).wp Q = Q (.str i) h := id rfl
/-- a slot -/
def At (ρ : Ev) (i : Nat) (Q : Vl → Prop) (_ : Hid Q := ()) : Prop := match ρ[i]? with
  | some (some v) => Q v
  | _ => False
theorem at_z {o : Vl} {Q : Vl → Prop} : At (some o :: ρ) 0 Q = Q o := id rfl
theorem at_s {o : Option Vl} {i : Nat} {Q : Vl → Prop} : At (o :: ρ) (i + 1) Q = At ρ i Q := id rfl
theorem w_loc {i : Nat} : (ev C (.loc i) ρ h).wp Q = At ρ i fun v => Q v h := by
  unfold At; rw [ev]
  generalize ρ[i]? = o
  rcases o with _ | _ | v <;> rfl
theorem w_bin {o : Op} {a b : E} : (ev C (.bin o a b) ρ h).wp Q = (ev C a ρ h).wp fun x h1 => (ev C b ρ h1).wp fun y h2 => (binV o x y h2).wp Q := by rw [ev, wp_bind]; exact wp_ext fun x h1 => wp_bind
theorem w_cmp {o : Cp} {a b : E} : (ev C (.cmp o a b) ρ h).wp Q = (ev C a ρ h).wp fun x h1 => (ev C b ρ h1).wp fun y h2 => (cmpV o x y h2).wp Q := by rw [ev, wp_bind]; exact wp_ext fun x h1 => wp_bind
/-- a bool, then on -/
def OnB (v : Vl) (Q : Bool → Prop) (_ : Hid Q := ()) : Prop := match v with
  | .bl b => Q b
  | _ => False
theorem onB_bl {b : Bool} {Q : Bool → Prop} : OnB (.bl b) Q = Q b := id rfl
def OnI (v : Vl) (Q : Int → Prop) (_ : Hid Q := ()) : Prop := match v with
  | .int b => Q b
  | _ => False
theorem onI_int {b : Int} {Q : Int → Prop} : OnI (.int b) Q = Q b := id rfl
theorem w_chain {o p : Cp} {a b c : E} : (ev C (.chain o p a b c) ρ h).wp Q = (ev C a ρ h).wp fun x h1 => (ev C b ρ h1).wp fun y h2 => (cmpV o x y h2).wp fun r h3 => OnB r fun t => Br t ((ev C c ρ h3).wp fun z h4 => (cmpV p y z h4).wp Q) (Q (.bl false) h3) := by
  rw [ev, wp_bind]
  refine wp_ext fun x h1 => ?_
  rw [wp_bind]
  refine wp_ext fun y h2 => ?_
  rw [wp_bind]
  refine wp_ext fun r h3 => ?_
  cases r with
  | bl t => cases t <;> simp only [OnB, Br, wp_bind, wp_ok]
  | _ => rfl
theorem w_and {a b : E} : (ev C (.and a b) ρ h).wp Q = (ev C a ρ h).wp fun x h1 => OnB x fun t => Br t ((ev C b ρ h1).wp Q) (Q (.bl false) h1) := by
  rw [ev, wp_bind]
  refine wp_ext fun x h1 => ?_
  cases x with
  | bl t => cases t <;> rfl
  | _ => rfl
theorem w_or {a b : E} : (ev C (.or a b) ρ h).wp Q = (ev C a ρ h).wp fun x h1 => OnB x fun t => Br t (Q (.bl true) h1) ((ev C b ρ h1).wp Q) := by
  rw [ev, wp_bind]
  refine wp_ext fun x h1 => ?_
  cases x with
  | bl t => cases t <;> rfl
  | _ => rfl
theorem w_not {a : E} : (ev C (.not a) ρ h).wp Q = (ev C a ρ h).wp fun x h1 => OnB x fun t => Q (.bl (!t)) h1 := by
  rw [ev, wp_bind]
  refine wp_ext fun x h1 => ?_
  cases x <;> rfl
theorem w_neg {a : E} : (ev C (.neg a) ρ h).wp Q = (ev C a ρ h).wp fun x h1 => OnI x fun t => Q (.int (-t)) h1 := by
  rw [ev, wp_bind]
  refine wp_ext fun x h1 => ?_
  cases x <;> rfl
theorem w_ite {c a b : E} : (ev C (.ite c a b) ρ h).wp Q = (tv C c ρ h).wp fun t h1 => Br t ((ev C a ρ h1).wp Q) ((ev C b ρ h1).wp Q) := by
  rw [ev, wp_bind]
  refine wp_ext fun x h1 => ?_
  cases x <;> rfl
theorem w_tup {es : List E} : (ev C (.tup es) ρ h).wp Q = (evs C es ρ h).wp fun xs h1 => xs.length ≤ sizeLine ∧ Q (.tup xs) h1 := by
  rw [ev, wp_bind]
  refine wp_ext fun x h1 => ?_
  by_cases hc : x.length ≤ sizeLine
  · rw [if_pos hc]; simp [wp_ok, hc]
  · rw [if_neg hc]; simp [R.wp, hc]
/-- a new cell -/
def Nw (h : Mm) (xs : List Vl) (Q : Nat → Mm → Prop) (_ : Hid Q := ()) : Prop := Q h.length (h ++ [xs])
theorem w_lst {es : List E} : (ev C (.lst es) ρ h).wp Q = (evs C es ρ h).wp fun xs h1 => xs.length ≤ sizeLine ∧ Nw h1 xs fun p h2 => Q (.cell p) h2 := by
  rw [ev, wp_bind]
  refine wp_ext fun x h1 => ?_
  by_cases hc : x.length ≤ sizeLine
  · rw [if_pos hc]; simp [wp_ok, hc, Nw]
  · rw [if_neg hc]; simp [R.wp, hc]
theorem w_ix {a b : E} : (ev C (.ix a b) ρ h).wp Q = (ev C a ρ h).wp fun x h1 => (ev C b ρ h1).wp fun y h2 => (ixV x y h2).wp Q := by rw [ev, wp_bind]; exact wp_ext fun x h1 => wp_bind
theorem w_slice {a : E} {lo hi : Option E} : (ev C (.slice a lo hi) ρ h).wp Q = (ev C a ρ h).wp fun x h1 => (evo C lo ρ h1).wp fun l h2 => (evo C hi ρ h2).wp fun u h3 => (sliceV x l u h3).wp Q := by rw [ev, wp_bind]; exact wp_ext fun x h1 => by rw [wp_bind]; exact wp_ext fun l h2 => wp_bind
theorem w_o0 {Q : Option Int → Mm → Prop} : (evo C none ρ h).wp Q = Q none h := by rw [evo]; rfl
theorem w_o1 {e : E} {Q : Option Int → Mm → Prop} : (evo C (some e) ρ h).wp Q = (ev C e ρ h).wp fun x h1 => OnI x fun i => Q (some i) h1 := by
  rw [evo, wp_bind]
  refine wp_ext fun x h1 => ?_
  cases x <;> rfl
theorem w_call {f : Str} {es : List E} : (ev C (.call f es) ρ h).wp Q = (evs C es ρ h).wp fun xs h1 => (C f xs h1).wp Q := by rw [ev, wp_bind]
theorem w_callk {f : Str} {es : List E} {pm : List Nat} : (ev C (.callk f es pm) ρ h).wp Q = (evs C es ρ h).wp fun xs h1 => (C f (pm.map fun i => xs.getD i .non) h1).wp Q := by rw [ev, wp_bind]
theorem w_bi {b : Bi} {es : List E} : (ev C (.bi b es) ρ h).wp Q = (evs C es ρ h).wp fun xs h1 => (biV b xs h1).wp Q := by rw [ev, wp_bind]
theorem w_isi {e : E} {t : IR.Ty} : (ev C (.isi e t) ρ h).wp Q = (ev C e ρ h).wp fun x h1 => Q (.bl (isiV x t)) h1 := by rw [ev, wp_bind]; rfl
/-- a list that may change, then on -/
def OnC (v : Vl) (Q : Nat → Prop) (_ : Hid Q := ()) : Prop := match v with
  | .cell b => Q b
  | _ => False
theorem onC_cell {b : Nat} {Q : Nat → Prop} : OnC (.cell b) Q = Q b := id rfl
theorem w_app {o e : E} : (ev C (.app o e) ρ h).wp Q = (ev C o ρ h).wp fun x h1 => OnC x fun n => (ev C e ρ h1).wp fun y h2 => (appV n y h2).wp Q := by
  rw [ev, wp_bind]
  refine wp_ext fun x h1 => ?_
  cases x with
  | cell n => simp only [OnC, wp_bind]
  | _ => rfl
theorem w_lc {tg : Tg} {it elt : E} {ifs : List E} {vs : List Nat} : (ev C (.lc tg it ifs elt vs) ρ h).wp Q = (evIt C it ρ h).wp fun p h1 => (lcV (fun ρ h => tvL C ifs ρ h) (fun ρ h => ev C elt ρ h) tg p.2 (wipeE ρ vs) p.1 [] h1).wp Q := by rw [ev, wp_bind]
theorem w_nil {Q : List Vl → Mm → Prop} : (evs C [] ρ h).wp Q = Q [] h := by rw [evs]; rfl
theorem w_cons {e : E} {es : List E} {Q : List Vl → Mm → Prop} : (evs C (e :: es) ρ h).wp Q = (ev C e ρ h).wp fun x h1 => (evs C es ρ h1).wp fun xs h2 => Q (x :: xs) h2 := by
  rw [evs, wp_bind]; exact wp_ext fun x h1 => by rw [wp_bind]; rfl
/-! tests -/
theorem t_and {a b : E} : (tv C (.and a b) ρ h).wp QB = (tv C a ρ h).wp fun t h1 => Br t ((tv C b ρ h1).wp QB) (QB false h1) := by
  rw [tv, wp_bind]
  refine wp_ext fun x h1 => ?_
  cases x <;> rfl
theorem t_or {a b : E} : (tv C (.or a b) ρ h).wp QB = (tv C a ρ h).wp fun t h1 => Br t (QB true h1) ((tv C b ρ h1).wp QB) := by
  rw [tv, wp_bind]
  refine wp_ext fun x h1 => ?_
  cases x <;> rfl
theorem t_not {a : E} : (tv C (.not a) ρ h).wp QB = (tv C a ρ h).wp fun t h1 => QB (!t) h1 := by
  rw [tv, wp_bind]; rfl
/-- truth, then on -/
def OnT (h : Mm) (v : Vl) (Q : Bool → Prop) (_ : Hid Q := ()) : Prop := match truth h v with
  | some b => Q b
  | none => False
theorem onT_bl {b : Bool} {Q : Bool → Prop} : OnT h (.bl b) Q = Q b := id rfl
theorem onT_non {Q : Bool → Prop} : OnT h .non Q = Q false := id rfl
theorem onT_int {b : Int} {Q : Bool → Prop} : OnT h (.int b) Q = Q (decide (b ≠ 0)) := id rfl
theorem onT_lst {xs : List Vl} {Q : Bool → Prop} : OnT h (.lst xs) Q = Q (!xs.isEmpty) := id rfl
theorem onT_cell {n : Nat} {xs : List Vl} {Q : Bool → Prop} (e : h[n]? = some xs) : OnT h (.cell n) Q = Q (!xs.isEmpty) := by
  unfold OnT; simp only [truth, e, Option.map_some]
theorem t_tru {a : E} : (tv C (.tru a) ρ h).wp QB = (ev C a ρ h).wp fun x h1 => OnT h1 x fun b => QB b h1 := by
  rw [tv, wp_bind]
  refine wp_ext fun x h1 => ?_
  unfold OnT boolOf
  cases truth h1 x <;> rfl
/-! statements -/
theorem s_nil : (exs C [] ρ h).wp D = D.nx ρ h := by rw [exs]; rfl
def Sk.thn (D : Sk) (C : Str → List Vl → Mm → R Vl) (ss : List S) : Sk := ⟨fun ρ1 h1 => (exs C ss ρ1 h1).wp D, D.rt, D.bk, D.ct⟩
theorem s_tnx {ss : List S} : (D.thn C ss).nx ρ h = (exs C ss ρ h).wp D := id rfl
theorem s_trt {ss : List S} {v : Vl} : (D.thn C ss).rt v h = D.rt v h := id rfl
theorem s_tbk {ss : List S} : (D.thn C ss).bk ρ h = D.bk ρ h := id rfl
theorem s_tct {ss : List S} : (D.thn C ss).ct ρ h = D.ct ρ h := id rfl
theorem s_cons {s : S} {ss : List S} : (exs C (s :: ss) ρ h).wp D = (ex C s ρ h).wp (D.thn C ss) := by
  rw [exs]
  cases ex C s ρ h <;> rfl
theorem s_set {i : Nat} {e : E} : (ex C (.set i e) ρ h).wp D = (ev C e ρ h).wp fun x h1 => D.nx (ρ.set i (some x)) h1 := by rw [ex, wp_bindS]; rfl
theorem s_par {is : List Nat} {es : List E} : (ex C (.par is es) ρ h).wp D = (evs C es ρ h).wp fun xs h1 => ∃ ρ1, asgTs (is.map .nm) xs ρ = some ρ1 ∧ D.nx ρ1 h1 := by
  rw [ex, wp_bindS]
  refine wp_ext fun xs h1 => ?_
  cases asgTs (is.map .nm) xs ρ <;> simp [RS.wp]
theorem s_tset {tg : Tg} {e : E} : (ex C (.tset tg e) ρ h).wp D = (ev C e ρ h).wp fun x h1 => ∃ ρ1, asgT tg x ρ = some ρ1 ∧ D.nx ρ1 h1 := by
  rw [ex, wp_bindS]
  refine wp_ext fun xs h1 => ?_
  cases asgT tg xs ρ <;> simp [RS.wp]
theorem s_setix {o i e : E} : (ex C (.setix o i e) ρ h).wp D = (ev C e ρ h).wp fun v h1 => (ev C o ρ h1).wp fun x h2 => (ev C i ρ h2).wp fun y h3 => ∃ h4, setixV x y v h3 = some h4 ∧ D.nx ρ h4 := by
  rw [ex, wp_bindS]
  refine wp_ext fun v h1 => ?_
  rw [wp_bindS]
  refine wp_ext fun x h2 => ?_
  rw [wp_bindS]
  refine wp_ext fun y h3 => ?_
  cases setixV x y v h3 <;> simp [RS.wp]
theorem s_ife {c : E} {a b : List S} : (ex C (.ife c a b) ρ h).wp D = (tv C c ρ h).wp fun t h1 => Br t ((exs C a ρ h1).wp D) ((exs C b ρ h1).wp D) := by
  rw [ex, wp_bindS]
  refine wp_ext fun x h1 => ?_
  cases x <;> rfl
theorem s_for {tg : Tg} {it : E} {body : List S} : (ex C (.forS tg it body) ρ h).wp D = (evIt C it ρ h).wp fun p h1 => (forV (fun ρ h => exs C body ρ h) tg p.2 p.1 ρ h1).wp D := by rw [ex, wp_bindS]
theorem s_ret {e : E} : (ex C (.ret e) ρ h).wp D = (ev C e ρ h).wp fun x h1 => D.rt x h1 := by rw [ex, wp_bindS]; rfl
theorem s_retN : (ex C .retN ρ h).wp D = D.rt .non h := by rw [ex]; rfl
theorem s_expr {e : E} : (ex C (.expr e) ρ h).wp D = (ev C e ρ h).wp fun x h1 => D.nx ρ h1 := by rw [ex, wp_bindS]; rfl
theorem s_pass : (ex C .pass ρ h).wp D = D.nx ρ h := by rw [ex]; rfl
theorem s_brk : (ex C .brk ρ h).wp D = D.bk ρ h := by rw [ex]; rfl
theorem s_cont : (ex C .cont ρ h).wp D = D.ct ρ h := by rw [ex]; rfl
theorem br_sk {b : Bool} {A B : Prop} : Br b A B = ((b = true → A) ∧ (b = false → B)) := by cases b <;> simp [Br]
/-! walks -/
theorem i_over {a : E} {Q : List Vl × Watch → Mm → Prop} : (evIt C (.over a) ρ h).wp Q = (ev C a ρ h).wp fun x h1 => ∃ p, itV h1 x = some p ∧ Q p h1 := by
  rw [evIt, wp_bind]
  refine wp_ext fun x h1 => ?_
  cases itV h1 x <;> simp [R.wp]
theorem i_rng1 {a : E} {Q : List Vl × Watch → Mm → Prop} : (evIt C (.rng1 a) ρ h).wp Q = (ev C a ρ h).wp fun x h1 => OnI x fun j => small j = true ∧ Q (rngV 0 j.toNat, []) h1 := by
  rw [evIt, wp_bind]
  refine wp_ext fun x h1 => ?_
  cases x with
  | int j =>
    simp only [OnI]
    by_cases hc : small j = true
    · rw [if_pos hc]; simp [R.wp, hc]
    · rw [if_neg hc]; simp [R.wp, hc]
  | _ => rfl
theorem i_zip {a b : E} {Q : List Vl × Watch → Mm → Prop} : (evIt C (.zip a b) ρ h).wp Q = (ev C a ρ h).wp fun x h1 => (ev C b ρ h1).wp fun y h2 => ∃ xs ys, seqOf h2 x = some xs ∧ seqOf h2 y = some ys ∧ Q (zipV xs ys, watch h2 x ++ watch h2 y) h2 := by
  rw [evIt, wp_bind]
  refine wp_ext fun x h1 => ?_
  rw [wp_bind]
  refine wp_ext fun y h2 => ?_
  cases seqOf h2 x <;> cases seqOf h2 y <;> simp [R.wp]
theorem i_enum {a : E} {Q : List Vl × Watch → Mm → Prop} : (evIt C (.enum a) ρ h).wp Q = (ev C a ρ h).wp fun x h1 => ∃ xs, seqOf h1 x = some xs ∧ Q (enumV xs, watch h1 x) h1 := by
  rw [evIt, wp_bind]
  refine wp_ext fun x h1 => ?_
  cases seqOf h1 x <;> simp [R.wp]
/-! loops, by an invariant -/
theorem for_inv {body : Ev → Mm → RS} {tg : Tg} {W : Watch} {xs : List Vl} (Iv : List Vl → Ev → Mm → Prop) (h0 : Iv [] ρ h) (hst : ∀ pre ρ h, Iv pre ρ h → Still W h)
    (hs : ∀ pre x post ρ h, xs = pre ++ x :: post → Iv pre ρ h → ∃ ρ1, asgT tg x ρ = some ρ1 ∧ (body ρ1 h).wp ⟨Iv (pre ++ [x]), D.rt, D.nx, Iv (pre ++ [x])⟩) (hd : ∀ ρ h, Iv xs ρ h → D.nx ρ h) : (forV body tg W xs ρ h).wp D := by
  have main : ∀ (post pre : List Vl) ρ h, xs = pre ++ post → Iv pre ρ h → (forV body tg W post ρ h).wp D := by
    intro post
    induction post with
    | nil =>
      intro pre ρ h e iv
      rw [List.append_nil] at e; subst e
      rw [forV, if_pos (hst _ _ _ iv)]
      exact hd ρ h iv
    | cons x post ih =>
      intro pre ρ h e iv
      rw [forV, if_pos (hst _ _ _ iv)]
      obtain ⟨ρ1, e1, b⟩ := hs pre x post ρ h e iv
      simp only [e1]
      cases eb : body ρ1 h with
      | next ρ2 h2 => rw [eb] at b; exact ih (pre ++ [x]) ρ2 h2 (by rw [e]; simp) b
      | cont ρ2 h2 => rw [eb] at b; exact ih (pre ++ [x]) ρ2 h2 (by rw [e]; simp) b
      | brk ρ2 h2 => rw [eb] at b; exact b
      | ret v h2 => rw [eb] at b; exact b
      | err _ _ _ => rw [eb] at b; exact b
      | bad => rw [eb] at b; exact b
  exact main xs [] ρ h rfl h0
theorem lc_inv {cond : Ev → Mm → R Bool} {elt : Ev → Mm → R Vl} {tg : Tg} {W : Watch} {xs : List Vl} (Iv : List Vl → List Vl → Mm → Prop) (h0 : Iv [] [] h) (hst : ∀ pre acc h, Iv pre acc h → Still W h ∧ acc.length < sizeLine)
    (hs : ∀ pre x post acc h, xs = pre ++ x :: post → Iv pre acc h → ∃ ρ1, asgT tg x ρ = some ρ1 ∧ (cond ρ1 h).wp fun b h1 => Br b ((elt ρ1 h1).wp fun v h2 => Iv (pre ++ [x]) (acc ++ [v]) h2) (Iv (pre ++ [x]) acc h1)) (hd : ∀ acc h, Iv xs acc h → Nw h acc fun p h2 => Q (.cell p) h2) : (lcV cond elt tg W ρ xs [] h).wp Q := by
  have main : ∀ (post pre acc : List Vl) h, xs = pre ++ post → Iv pre acc h → (lcV cond elt tg W ρ post acc h).wp Q := by
    intro post
    induction post with
    | nil =>
      intro pre acc h e iv
      rw [List.append_nil] at e; subst e
      rw [lcV, if_pos (hst _ _ _ iv).1]
      exact hd acc h iv
    | cons x post ih =>
      intro pre acc h e iv
      rw [lcV, if_pos (hst _ _ _ iv)]
      obtain ⟨ρ1, e1, b⟩ := hs pre x post acc h e iv
      simp only [e1]
      cases eb : cond ρ1 h with
      | ok t h1 =>
        rw [eb] at b
        cases t with
        | false => exact ih (pre ++ [x]) acc h1 (by rw [e]; simp) b
        | true =>
          simp only
          cases ee : elt ρ1 h1 with
          | ok v h2 =>
            have b' : (elt ρ1 h1).wp fun v h2 => Iv (pre ++ [x]) (acc ++ [v]) h2 := b
            rw [ee] at b'
            exact ih (pre ++ [x]) (acc ++ [v]) h2 (by rw [e]; simp) b'
          | err _ _ => have b' : (elt ρ1 h1).wp fun v h2 => Iv (pre ++ [x]) (acc ++ [v]) h2 := b; rw [ee] at b'; exact b'.elim
          | bad => have b' : (elt ρ1 h1).wp fun v h2 => Iv (pre ++ [x]) (acc ++ [v]) h2 := b; rw [ee] at b'; exact b'.elim
      | err _ _ => rw [eb] at b; exact b.elim
      | bad => rw [eb] at b; exact b.elim
  exact main xs [] [] h rfl h0
/-! a def's run -/
theorem call_wp {T : Str → Option Fn} {k : Nat} {f : Str} {fn : Fn} {xs : List Vl} (hT : T f = some fn) (hl : xs.length = fn.ps) (hn : fn.ps ≤ fn.n)
    (hb : (exs (call T k) fn.body (xs.map some ++ List.replicate (fn.n - fn.ps) none) h).wp ⟨fun _ h1 => Q .non h1, Q, fun _ _ => False, fun _ _ => False⟩) : (call T (k + 1) f xs h).wp Q := by
  rw [call, hT]
  show (if xs.length = fn.ps ∧ fn.ps ≤ fn.n then _ else _ : R Vl).wp Q
  rw [if_pos ⟨hl, hn⟩]
  cases e : exs (call T k) fn.body (xs.map some ++ List.replicate (fn.n - fn.ps) none) h <;> (rw [e] at hb; exact hb)
end
end IR

set_option Elab.async false
set_option linter.all false
set_option maxRecDepth 100000
set_option maxHeartbeats 4000000
namespace IR
open PySem PySem.Spec PyProof.Rows L2 Dl
section
variable {C : Str → List Vl → Mm → R Vl} {ρ : Ev} {h : Mm} {Q : Vl → Mm → Prop} {D : Sk} {i j : Int}
theorem br_yes {b : Bool} {A B : Prop} (hb : b = true) (a : A) : Br b A B := by rw [hb]; exact a
theorem br_no {b : Bool} {A B : Prop} (hb : b = false) (a : B) : Br b A B := by rw [hb]; exact a
theorem l_add : binV .add (.int i) (.int j) h = .ok (.int (i + j)) h := id rfl
theorem l_sub : binV .sub (.int i) (.int j) h = .ok (.int (i - j)) h := id rfl
theorem l_mul0 : (binV .mul (.int i) (.int j) h).wp Q = ((wid i && wid j) = true ∧ Q (.int (i * j)) h) := by
  simp only [binV]; split <;> simp_all [R.wp]
theorem l_fdiv0 : (binV .fdiv (.int i) (.int j) h).wp Q = ((decide (0 < j) && big j) = true ∧ Q (.int (i / j)) h) := by
  simp only [binV]; split <;> simp_all [R.wp]
theorem l_mod0 : (binV .mod (.int i) (.int j) h).wp Q = (0 < j ∧ Q (.int (i % j)) h) := by
  simp only [binV]
  by_cases hc : 0 < j
  · rw [if_pos hc]; simp [R.wp, hc]
  · rw [if_neg hc]; simp only [R.wp, hc, false_and]
theorem l_pow0 : (binV .pow (.int i) (.int j) h).wp Q = ((big i && decide (0 ≤ j) && decide (j ≤ 1000)) = true ∧ Q (.int (i ^ j.toNat)) h) := by
  simp only [binV]
  by_cases hc : (big i && decide (0 ≤ j) && decide (j ≤ 1000)) = true
  · rw [if_pos hc]; simp only [R.wp, hc, true_and]
  · rw [if_neg hc]; simp only [R.wp]; exact propext ⟨False.elim, fun z => hc z.1⟩
theorem l_lt : cmpV .lt (.int i) (.int j) h = .ok (.bl (decide (i < j))) h := id rfl
theorem l_le : cmpV .le (.int i) (.int j) h = .ok (.bl (decide (i ≤ j))) h := id rfl
theorem l_gt : cmpV .gt (.int i) (.int j) h = .ok (.bl (decide (j < i))) h := id rfl
theorem l_ge : cmpV .ge (.int i) (.int j) h = .ok (.bl (decide (j ≤ i))) h := id rfl
theorem l_eqI : cmpV .eq (.int i) (.int j) h = .ok (.bl (i == j)) h := id rfl
theorem l_neI : cmpV .ne (.int i) (.int j) h = .ok (.bl (!(i == j))) h := id rfl
theorem l_eqS {s t : Str} : cmpV .eq (.str s) (.str t) h = .ok (.bl (decide (s = t))) h := id rfl
theorem l_neS {s t : Str} : cmpV .ne (.str s) (.str t) h = .ok (.bl (!decide (s = t))) h := id rfl
theorem l_eq {x y : Vl} {d e : PyData} (h1 : snap 8 h x = some d) (h2 : snap 8 h y = some e) (s1 : SeqAt.shaped d = true) (s2 : SeqAt.shaped e = true) (hn : ∀ s t, ¬ (x = .str s ∧ y = .str t) := by intro s t z; cases z.1 <;> cases z.2) : cmpV .eq x y h = .ok (.bl (PyData.eqv d e)) h := by
  have : eqV x y h = some (PyData.eqv d e) := by
    unfold eqV
    split
    · exact absurd ⟨rfl, rfl⟩ (hn _ _)
    · simp only [h1, h2, s1, s2, Bool.and_self, if_true]
  simp only [cmpV, this]
theorem l_ne {x y : Vl} {d e : PyData} (h1 : snap 8 h x = some d) (h2 : snap 8 h y = some e) (s1 : SeqAt.shaped d = true) (s2 : SeqAt.shaped e = true) (hn : ∀ s t, ¬ (x = .str s ∧ y = .str t) := by intro s t z; cases z.1 <;> cases z.2) : cmpV .ne x y h = .ok (.bl (!PyData.eqv d e)) h := by
  have : eqV x y h = some (PyData.eqv d e) := by
    unfold eqV
    split
    · exact absurd ⟨rfl, rfl⟩ (hn _ _)
    · simp only [h1, h2, s1, s2, Bool.and_self, if_true]
  simp only [cmpV, this]
theorem l_isN {x : Vl} : cmpV .is x .non h = .ok (.bl (match x with | .non => true | _ => false)) h := by cases x <;> rfl
theorem l_isnN {x : Vl} : cmpV .isNot x .non h = .ok (.bl (match x with | .non => false | _ => true)) h := by cases x <;> rfl
theorem l_len0 {n : Nat} {xs : List Vl} (e : h[n]? = some xs) : biV .len [.cell n] h = .ok (.int xs.length) h := by
  show (match seqOf h (.cell n) with | some ys => R.ok (Vl.int ys.length) h | none => R.bad) = _
  rw [show seqOf h (.cell n) = some xs from e]
theorem l_lenT {xs : List Vl} : biV .len [.tup xs] h = .ok (.int xs.length) h := id rfl
theorem l_lenF {xs : List Int} : biV .len [.frz xs] h = .ok (.int xs.length) h := by
  show R.ok (Vl.int ((xs.map Vl.int).length : Nat)) h = _
  rw [List.length_map]
theorem l_abs : biV .abs [.int i] h = .ok (.int i.natAbs) h := id rfl
theorem l_max : biV .max [.int i, .int j] h = .ok (.int (max i j)) h := id rfl
theorem l_min : biV .min [.int i, .int j] h = .ok (.int (min i j)) h := id rfl
theorem l_toInt : biV .toInt [.int i] h = .ok (.int i) h := id rfl
theorem l_toIntB {b : Bool} : biV .toInt [.bl b] h = .ok (.int (if b = true then 1 else 0)) h := id rfl
theorem l_list0 {n : Nat} {xs : List Vl} (e : h[n]? = some xs) : (biV .list [.cell n] h).wp Q = Nw h xs fun p h2 => Q (.cell p) h2 := by
  show (match seqOf h (.cell n) with | some ys => R.ok (Vl.cell h.length) (h ++ [ys]) | none => R.bad).wp Q = _
  rw [show seqOf h (.cell n) = some xs from e]; rfl
theorem l_tupC0 {n : Nat} {xs : List Vl} (e : h[n]? = some xs) : biV .tuple [.cell n] h = .ok (.tup xs) h := by
  show (match seqOf h (.cell n) with | some ys => R.ok (Vl.tup ys) h | none => R.bad) = _
  rw [show seqOf h (.cell n) = some xs from e]
theorem l_tupT {xs : List Vl} : biV .tuple [.tup xs] h = .ok (.tup xs) h := id rfl
theorem asInts_map (ns : List Int) : asInts (ns.map .int) = some ns := by
  induction ns with
  | nil => rfl
  | cons a t ih => simp only [List.map_cons, asInts, ih, Option.map_some]
theorem asBools_map (ns : List Bool) : asBools (ns.map .bl) = some ns := by
  induction ns with
  | nil => rfl
  | cons a t ih => simp only [List.map_cons, asBools, ih, Option.map_some]
theorem l_sum0 {n : Nat} {xs : List Int} (e : h[n]? = some (xs.map .int)) : biV .sum [.cell n] h = .ok (.int xs.sum) h := by
  show (match seqOf h (.cell n) with | some ys => (match asInts ys with | some is => R.ok (Vl.int is.sum) h | none => R.bad) | none => R.bad) = _
  rw [show seqOf h (.cell n) = some (xs.map .int) from e]
  simp only [asInts_map]
theorem l_all0 {n : Nat} {xs : List Bool} (e : h[n]? = some (xs.map .bl)) : biV .all [.cell n] h = .ok (.bl (xs.all id)) h := by
  show (match seqOf h (.cell n) with | some ys => (match asBools ys with | some is => R.ok (Vl.bl (is.all id)) h | none => R.bad) | none => R.bad) = _
  rw [show seqOf h (.cell n) = some (xs.map .bl) from e]
  simp only [asBools_map]
theorem l_repr0 {x : Vl} {d : PyData} (hx : (∃ c, x = .cell c) ∨ ∃ xs, x = .tup xs) (e : snap 8 h x = some d) (o : reprOk d = true) : biV .repr [x] h = .ok (.str d.shown) h := by
  rcases hx with ⟨c, rfl⟩ | ⟨xs, rfl⟩
  · show (match snap 8 h (.cell c) with | some d => (if reprOk d then R.ok (Vl.str d.shown) h else R.bad) | none => R.bad) = _
    rw [e]; simp only [o, if_true]
  · show (match snap 8 h (.tup xs) with | some d => (if reprOk d then R.ok (Vl.str d.shown) h else R.bad) | none => R.bad) = _
    rw [e]; simp only [o, if_true]
/-! what a place holds, then on -/
def OnO {α : Type} (o : Option α) (K : α → Prop) (_ : Hid K := ()) : Prop := match o with
  | some x => K x
  | none => False
theorem onO_some {α : Type} {x : α} {K : α → Prop} : OnO (some x) K = K x := id rfl
/-- a new cell; a cell that is changed -/
def Up (h : Mm) (n : Nat) (xs : List Vl) (Q : Mm → Prop) (_ : Hid Q := ()) : Prop := Q (h.set n xs)
/-- a condition, then on -/
def If (b : Bool) (A : Prop) (_ : Hid A := ()) : Prop := b = true ∧ A
theorem if_t {A : Prop} : If true A = A := by simp [If]
theorem if_mk {b : Bool} {A : Prop} (hb : b = true) (a : A) : If b A := ⟨hb, a⟩
theorem l_mul : (binV .mul (.int i) (.int j) h).wp Q = If (wid i && wid j) (Q (.int (i * j)) h) := l_mul0
theorem l_fdiv : (binV .fdiv (.int i) (.int j) h).wp Q = If (decide (0 < j) && big j) (Q (.int (i / j)) h) := l_fdiv0
theorem l_mod : (binV .mod (.int i) (.int j) h).wp Q = If (decide (0 < j)) (Q (.int (i % j)) h) := by rw [l_mod0]; simp [If]
theorem l_pow : (binV .pow (.int i) (.int j) h).wp Q = If (big i && decide (0 ≤ j) && decide (j ≤ 1000)) (Q (.int (i ^ j.toNat)) h) := l_pow0
theorem l_cat {a b : Nat} : (binV .add (.cell a) (.cell b) h).wp Q = OnO h[a]? fun xs => OnO h[b]? fun ys => If (decide (xs.length + ys.length ≤ sizeLine)) (Nw h (xs ++ ys) fun p h2 => Q (.cell p) h2) := by
  simp only [binV]
  cases h[a]? with
  | none => rfl
  | some xs => cases h[b]? with
    | none => rfl
    | some ys =>
      by_cases hc : xs.length + ys.length ≤ sizeLine
      · simp [OnO, If, R.wp, hc, Nw]
      · simp [OnO, If, R.wp, hc]
theorem l_rep {a : Nat} : (binV .mul (.cell a) (.int i) h).wp Q = OnO h[a]? fun xs => If (small i && decide (xs.length * i.toNat ≤ sizeLine)) (Nw h (repL xs i.toNat) fun p h2 => Q (.cell p) h2) := by
  simp only [binV]
  cases h[a]? with
  | none => rfl
  | some xs =>
    dsimp only [OnO]
    by_cases hc : (small i && decide (xs.length * i.toNat ≤ sizeLine)) = true
    · rw [if_pos hc]; simp only [If, hc, true_and]; rfl
    · rw [if_neg hc]; simp only [If, R.wp]; exact propext ⟨False.elim, fun z => hc z.1⟩
theorem w_tup' {es : List E} : (ev C (.tup es) ρ h).wp Q = (evs C es ρ h).wp fun xs h1 => If (decide (xs.length ≤ sizeLine)) (Q (.tup xs) h1) := by
  rw [w_tup]; exact wp_ext fun xs h1 => by simp [If]
theorem w_lst' {es : List E} : (ev C (.lst es) ρ h).wp Q = (evs C es ρ h).wp fun xs h1 => If (decide (xs.length ≤ sizeLine)) (Nw h1 xs fun p h2 => Q (.cell p) h2) := by
  rw [w_lst]; exact wp_ext fun xs h1 => by simp [If]
theorem l_len {n : Nat} : (biV .len [.cell n] h).wp Q = OnO h[n]? fun xs => Q (.int xs.length) h := by
  cases e : h[n]? with
  | some xs => rw [l_len0 e]; rfl
  | none =>
    show (match seqOf h (.cell n) with | some ys => R.ok (Vl.int ys.length) h | none => R.bad).wp Q = _
    rw [show seqOf h (.cell n) = none from e]; rfl
theorem l_list {n : Nat} : (biV .list [.cell n] h).wp Q = OnO h[n]? fun xs => Nw h xs fun p h2 => Q (.cell p) h2 := by
  cases e : h[n]? with
  | some xs => rw [l_list0 e]; rfl
  | none =>
    show (match seqOf h (.cell n) with | some ys => R.ok (Vl.cell h.length) (h ++ [ys]) | none => R.bad).wp Q = _
    rw [show seqOf h (.cell n) = none from e]; rfl
theorem l_tupC {n : Nat} : (biV .tuple [.cell n] h).wp Q = OnO h[n]? fun xs => Q (.tup xs) h := by
  cases e : h[n]? with
  | some xs => rw [l_tupC0 e]; rfl
  | none =>
    show (match seqOf h (.cell n) with | some ys => R.ok (Vl.tup ys) h | none => R.bad).wp Q = _
    rw [show seqOf h (.cell n) = none from e]; rfl
theorem l_sum {n : Nat} : (biV .sum [.cell n] h).wp Q = OnO h[n]? fun xs => OnO (asInts xs) fun is => Q (.int is.sum) h := by
  show (match seqOf h (.cell n) with | some ys => (match asInts ys with | some is => R.ok (Vl.int is.sum) h | none => R.bad) | none => R.bad).wp Q = _
  rw [show seqOf h (.cell n) = h[n]? from rfl]
  cases h[n]? with
  | none => rfl
  | some xs => simp only [OnO]; cases asInts xs <;> rfl
theorem l_all {n : Nat} : (biV .all [.cell n] h).wp Q = OnO h[n]? fun xs => OnO (asBools xs) fun is => Q (.bl (is.all id)) h := by
  show (match seqOf h (.cell n) with | some ys => (match asBools ys with | some is => R.ok (Vl.bl (is.all id)) h | none => R.bad) | none => R.bad).wp Q = _
  rw [show seqOf h (.cell n) = h[n]? from rfl]
  cases h[n]? with
  | none => rfl
  | some xs => simp only [OnO]; cases asBools xs <;> rfl
theorem l_reprC {n : Nat} : (biV .repr [.cell n] h).wp Q = OnO (snap 8 h (.cell n)) fun d => If (reprOk d) (Q (.str d.shown) h) := by
  show (match snap 8 h (.cell n) with | some d => (if reprOk d then R.ok (Vl.str d.shown) h else R.bad) | none => R.bad).wp Q = _
  cases snap 8 h (.cell n) with
  | none => rfl
  | some d => cases hc : reprOk d <;> simp [OnO, If, R.wp, hc]
theorem l_reprT {xs : List Vl} : (biV .repr [.tup xs] h).wp Q = OnO (snap 8 h (.tup xs)) fun d => If (reprOk d) (Q (.str d.shown) h) := by
  show (match snap 8 h (.tup xs) with | some d => (if reprOk d then R.ok (Vl.str d.shown) h else R.bad) | none => R.bad).wp Q = _
  cases snap 8 h (.tup xs) with
  | none => rfl
  | some d => cases hc : reprOk d <;> simp [OnO, If, R.wp, hc]
/-! items -/
theorem l_ixc {n : Nat} : (ixV (.cell n) (.int i) h).wp Q = OnO h[n]? fun xs => OnO (atI xs i) fun v => Q v h := by
  simp only [ixV]
  cases h[n]? with
  | none => rfl
  | some xs => simp only [OnO]; cases atI xs i <;> rfl
theorem l_ixt {xs : List Vl} : (ixV (.tup xs) (.int i) h).wp Q = OnO (atI xs i) fun v => Q v h := by
  simp only [ixV]; cases atI xs i <;> rfl
theorem l_ixf {xs : List Int} : (ixV (.frz xs) (.int i) h).wp Q = OnO (atI xs i) fun v => Q (.int v) h := by
  simp only [ixV]; cases atI xs i <;> rfl
theorem atI_0 {α : Type} {x : α} {xs : List α} : atI (x :: xs) 0 = some x := by
  unfold atI ixN; rw [if_pos (by decide), if_pos (by simp only [List.length_cons]; omega)]; rfl
theorem atI_1 {α : Type} {x y : α} {xs : List α} : atI (x :: y :: xs) 1 = some y := by
  unfold atI ixN; rw [if_pos (by decide), if_pos (by simp only [List.length_cons]; omega)]; rfl
theorem atI_2 {α : Type} {x y z : α} {xs : List α} : atI (x :: y :: z :: xs) 2 = some z := by
  unfold atI ixN; rw [if_pos (by decide), if_pos (by simp only [List.length_cons]; omega)]; rfl
theorem atI_3 {α : Type} {x y z w : α} {xs : List α} : atI (x :: y :: z :: w :: xs) 3 = some w := by
  unfold atI ixN; rw [if_pos (by decide), if_pos (by simp only [List.length_cons]; omega)]; rfl
theorem atI_end {α : Type} {x : α} {xs : List α} : atI (xs ++ [x]) (-1) = some x := atI_last _ _
theorem atI_nat {α : Type} {xs : List α} {k : Nat} (hk : k < xs.length) : atI xs (k : Int) = some xs[k] := by
  rw [at_lit (by omega) (by omega)]; simp
/-- whatever item it is -/
theorem at_any {α : Type} {xs : List α} {k : Int} {K : α → Prop} (h0 : 0 ≤ k) (h1 : k < xs.length) (hk : ∀ v ∈ xs, K v) : OnO (atI xs k) K := by
  rw [at_lit h0 h1]; exact hk _ (List.getElem_mem _)
/-! cells -/
theorem l_app {n : Nat} {v : Vl} : (appV n v h).wp Q = OnO h[n]? fun xs => If (decide (xs.length < sizeLine)) (Up h n (xs ++ [v]) fun h2 => Q .non h2) := by
  simp only [appV]
  cases h[n]? with
  | none => rfl
  | some xs =>
    by_cases hc : xs.length < sizeLine
    · simp [OnO, If, R.wp, hc, Up]
    · simp [OnO, If, R.wp, hc]
theorem s_setix' {o i e : E} : (ex C (.setix o i e) ρ h).wp D = (ev C e ρ h).wp fun v h1 => (ev C o ρ h1).wp fun x h2 => (ev C i ρ h2).wp fun y h3 => OnC x fun n => OnI y fun k => OnO h3[n]? fun xs => OnO (ixN xs.length k) fun j => Up h3 n (xs.set j v) fun h4 => D.nx ρ h4 := by
  rw [s_setix]
  refine wp_ext fun v h1 => ?_
  refine wp_ext fun x h2 => ?_
  refine wp_ext fun y h3 => ?_
  cases x with
  | cell n => cases y with
    | int k =>
      simp only [setixV, OnC, OnI]
      cases h3[n]? with
      | none => simp [OnO]
      | some xs => simp only [OnO]; cases ixN xs.length k <;> simp [Up]
    | _ => simp [setixV, OnC, OnI]
  | _ => cases y <;> simp [setixV, OnC, OnI]
theorem s_par' {is : List Nat} {es : List E} : (ex C (.par is es) ρ h).wp D = (evs C es ρ h).wp fun xs h1 => OnO (asgTs (is.map .nm) xs ρ) fun ρ1 => D.nx ρ1 h1 := by
  rw [s_par]
  refine wp_ext fun xs h1 => ?_
  cases asgTs (is.map .nm) xs ρ <;> simp [OnO]
theorem s_tset' {tg : Tg} {e : E} : (ex C (.tset tg e) ρ h).wp D = (ev C e ρ h).wp fun x h1 => OnO (asgT tg x ρ) fun ρ1 => D.nx ρ1 h1 := by
  rw [s_tset]
  refine wp_ext fun xs h1 => ?_
  cases asgT tg xs ρ <;> simp [OnO]
theorem nw_mk {xs : List Vl} {P : Nat → Mm → Prop} (k : ∀ (p : Nat) (h2 : Mm), h.length = p → h2.length = p + 1 → h2[p]? = some xs → (∀ m : Nat, m < p → h2[m]? = h[m]?) → P p h2) : Nw h xs P := by
  refine k _ _ rfl (by simp) (by simp) (fun n e => ?_)
  rw [List.getElem?_append_left e]
theorem up_mk {n : Nat} {ys : List Vl} {P : Mm → Prop} (e : n < h.length) (k : ∀ h2 : Mm, h2.length = h.length → h2[n]? = some ys → (∀ m : Nat, m ≠ n → h2[m]? = h[m]?) → P h2) : Up h n ys P := by
  refine k _ (by simp) ?_ fun m hm => ?_
  · rw [List.getElem?_set_self e]
  · rw [List.getElem?_set_ne (Ne.symm hm)]
theorem onT_cell' {n : Nat} {Q : Bool → Prop} : OnT h (.cell n) Q = OnO h[n]? fun xs => Q (!xs.isEmpty) := by
  unfold OnT; simp only [truth]; cases h[n]? <;> rfl
theorem onT_tup {xs : List Vl} {Q : Bool → Prop} : OnT h (.tup xs) Q = Q (!xs.isEmpty) := id rfl
/-! walks -/
def itO (h : Mm) (v : Vl) (K : List Vl × Watch → Prop) (_ : Hid K := ()) : Prop := ∃ p, itV h v = some p ∧ K p
theorem itO_cell {n : Nat} {K : List Vl × Watch → Prop} : itO h (.cell n) K = OnO h[n]? fun xs => K (xs, [(n, xs)]) := by
  unfold itO
  simp only [itV, seqOf, watch]
  cases h[n]? <;> simp [OnO]
theorem itO_tup {xs : List Vl} {K : List Vl × Watch → Prop} : itO h (.tup xs) K = K (xs, []) := by simp [itO, itV]
theorem itO_frz {xs : List Int} {K : List Vl × Watch → Prop} : itO h (.frz xs) K = K (xs.map .int, []) := by simp [itO, itV, seqOf, watch]
theorem i_over' {a : E} {QI : List Vl × Watch → Mm → Prop} : (evIt C (.over a) ρ h).wp QI = (ev C a ρ h).wp fun x h1 => itO h1 x fun p => QI p h1 := i_over
theorem i_rng1' {a : E} {QI : List Vl × Watch → Mm → Prop} : (evIt C (.rng1 a) ρ h).wp QI = (ev C a ρ h).wp fun x h1 => OnI x fun j => If (small j) (QI (rngV 0 j.toNat, []) h1) := i_rng1
theorem seq_cell {n : Nat} : seqOf h (.cell n) = h[n]? := id rfl
theorem seq_frz {xs : List Int} : seqOf h (.frz xs) = some (xs.map .int) := id rfl
theorem i_zip' {a b : E} {QI : List Vl × Watch → Mm → Prop} : (evIt C (.zip a b) ρ h).wp QI = (ev C a ρ h).wp fun x h1 => (ev C b ρ h1).wp fun y h2 => OnO (seqOf h2 x) fun xs => OnO (seqOf h2 y) fun ys => QI (zipV xs ys, watch h2 x ++ watch h2 y) h2 := by
  rw [i_zip]
  refine wp_ext fun x h1 => ?_
  refine wp_ext fun y h2 => ?_
  cases seqOf h2 x <;> cases seqOf h2 y <;> simp [OnO]
theorem i_enum' {a : E} {QI : List Vl × Watch → Mm → Prop} : (evIt C (.enum a) ρ h).wp QI = (ev C a ρ h).wp fun x h1 => OnO (seqOf h1 x) fun xs => QI (enumV xs, watch h1 x) h1 := by
  rw [i_enum]
  refine wp_ext fun x h1 => ?_
  cases seqOf h1 x <;> simp [OnO]
theorem watch_cell {n : Nat} : watch h (.cell n) = (match h[n]? with | some xs => [(n, xs)] | none => []) := id rfl
theorem watch_frz {xs : List Int} : watch h (.frz xs) = [] := id rfl
theorem l_slice {n : Nat} {lo hi : Option Int} : (sliceV (.cell n) lo hi h).wp Q = OnO h[n]? fun xs => Nw h (Dl.cutD xs lo hi) fun p h2 => Q (.cell p) h2 := by
  simp only [sliceV, seqOf]
  cases h[n]? <;> rfl
end
theorem still_0 {h : Mm} : Still [] h := fun _ hp => by cases hp
theorem still_1 {h : Mm} {p : Nat} {xs : List Vl} (e : h[p]? = some xs) : Still [(p, xs)] h := fun z hz => by
  rw [List.mem_singleton] at hz; subst hz; exact e
theorem still_2 {h : Mm} {p q : Nat} {xs ys : List Vl} (e : h[p]? = some xs) (f : h[q]? = some ys) : Still [(p, xs), (q, ys)] h := fun z hz => by
  simp only [List.mem_cons, List.not_mem_nil, or_false] at hz
  rcases hz with rfl | rfl
  · exact e
  · exact f
/-- what stood stands -/
structure Ext (h h' : Mm) : Prop where
  len : h.length ≤ h'.length
  old : ∀ m : Nat, m < h.length → h'[m]? = h[m]?
theorem Ext.refl {h : Mm} : Ext h h := ⟨Nat.le_refl _, fun _ _ => rfl⟩
theorem Ext.trans {a b c : Mm} (x : Ext a b) (y : Ext b c) : Ext a c := ⟨Nat.le_trans x.len y.len, fun m hm => by rw [y.old m (Nat.lt_of_lt_of_le hm x.len), x.old m hm]⟩
theorem Ext.get {h h' : Mm} (x : Ext h h') {n : Nat} {xs : List Vl} (e : h[n]? = some xs) : h'[n]? = some xs := by
  rw [x.old n (List.getElem?_eq_some_iff.mp e).1]; exact e
theorem Ext.new {h h2 : Mm} {p : Nat} (e1 : h.length = p) (e2 : h2.length = p + 1) (e4 : ∀ m : Nat, m < p → h2[m]? = h[m]?) : Ext h h2 := ⟨by omega, fun m hm => e4 m (by omega)⟩
theorem Ext.up {h0 h h2 : Mm} (x : Ext h0 h) {n : Nat} (hn : h0.length ≤ n) (e1 : h2.length = h.length) (e3 : ∀ m : Nat, m ≠ n → h2[m]? = h[m]?) : Ext h0 h2 := ⟨by have := x.len; omega, fun m hm => by rw [e3 m (by omega), x.old m hm]⟩
theorem lt_of_get {h : Mm} {n : Nat} {xs : List Vl} (e : h[n]? = some xs) : n < h.length := (List.getElem?_eq_some_iff.mp e).1
section
variable {C : Str → List Vl → Mm → R Vl} {ρ : Ev} {h : Mm} {Q : Vl → Mm → Prop} {i : Int}
/-! frozen lists -/
theorem l_lenL {xs : List Vl} : biV .len [.lst xs] h = .ok (.int xs.length) h := id rfl
theorem l_listL {xs : List Vl} : (biV .list [.lst xs] h).wp Q = Nw h xs fun p h2 => Q (.cell p) h2 := id rfl
theorem l_listT {xs : List Vl} : (biV .list [.tup xs] h).wp Q = Nw h xs fun p h2 => Q (.cell p) h2 := id rfl
theorem l_listF {xs : List Int} : (biV .list [.frz xs] h).wp Q = Nw h (xs.map .int) fun p h2 => Q (.cell p) h2 := id rfl
theorem l_tupL {xs : List Vl} : biV .tuple [.lst xs] h = .ok (.tup xs) h := id rfl
theorem l_sumL {xs : List Vl} : (biV .sum [.lst xs] h).wp Q = OnO (asInts xs) fun is => Q (.int is.sum) h := by
  show (match asInts xs with | some is => R.ok (Vl.int is.sum) h | none => R.bad).wp Q = _
  cases asInts xs <;> rfl
theorem l_allL {xs : List Vl} : (biV .all [.lst xs] h).wp Q = OnO (asBools xs) fun is => Q (.bl (is.all id)) h := by
  show (match asBools xs with | some is => R.ok (Vl.bl (is.all id)) h | none => R.bad).wp Q = _
  cases asBools xs <;> rfl
theorem l_reprL {xs : List Vl} : (biV .repr [.lst xs] h).wp Q = OnO (snap 8 h (.lst xs)) fun d => If (reprOk d) (Q (.str d.shown) h) := by
  show (match snap 8 h (.lst xs) with | some d => (if reprOk d then R.ok (Vl.str d.shown) h else R.bad) | none => R.bad).wp Q = _
  cases snap 8 h (.lst xs) with
  | none => rfl
  | some d => cases hc : reprOk d <;> simp [OnO, If, R.wp, hc]
theorem i_rng3' {a b c : E} {QI : List Vl × Watch → Mm → Prop} : (evIt C (.rng3 a b c) ρ h).wp QI = (ev C a ρ h).wp fun x h1 => (ev C b ρ h1).wp fun y h2 => (ev C c ρ h2).wp fun z h3 => OnI x fun i => OnI y fun j => OnI z fun l => If (small i && small j && decide (l = -1)) (QI (rngC i (-1) (i - j).toNat, []) h3) := by
  rw [evIt, wp_bind]
  refine wp_ext fun x h1 => ?_
  rw [wp_bind]
  refine wp_ext fun y h2 => ?_
  rw [wp_bind]
  refine wp_ext fun z h3 => ?_
  cases x with
  | int i => cases y with
    | int j => cases z with
      | int l =>
        simp only [OnI]
        by_cases hc : (small i && small j && decide (l = -1)) = true
        · rw [if_pos hc]; simp only [R.wp, If, hc, true_and]
        · rw [if_neg hc]; simp only [R.wp, If]; exact propext ⟨False.elim, fun z => hc z.1⟩
      | _ => rfl
    | _ => rfl
  | _ => rfl
theorem i_rng2' {a b : E} {QI : List Vl × Watch → Mm → Prop} : (evIt C (.rng2 a b) ρ h).wp QI = (ev C a ρ h).wp fun x h1 => (ev C b ρ h1).wp fun y h2 => OnI x fun i => OnI y fun j => If (small i && small j) (QI (rngV i (j - i).toNat, []) h2) := by
  rw [evIt, wp_bind]
  refine wp_ext fun x h1 => ?_
  rw [wp_bind]
  refine wp_ext fun y h2 => ?_
  cases x with
  | int i => cases y with
    | int j =>
      simp only [OnI]
      by_cases hc : (small i && small j) = true
      · rw [if_pos hc]; simp only [R.wp, If, hc, true_and]
      · rw [if_neg hc]; simp only [R.wp, If]; exact propext ⟨False.elim, fun z => hc z.1⟩
    | _ => rfl
  | _ => rfl
theorem l_maxL {xs : List Vl} : (biV .max [.lst xs] h).wp Q = OnO (asInts xs) fun is => If (!is.isEmpty) (Q (.int (maxOf is)) h) := by
  show (match asInts xs with | some is => (if is.isEmpty then R.bad else R.ok (Vl.int (maxOf is)) h) | none => R.bad).wp Q = _
  cases asInts xs with
  | none => rfl
  | some is => cases hc : is.isEmpty <;> simp [OnO, If, R.wp, hc]
theorem l_minL {xs : List Vl} : (biV .min [.lst xs] h).wp Q = OnO (asInts xs) fun is => If (!is.isEmpty) (Q (.int (minOf is)) h) := by
  show (match asInts xs with | some is => (if is.isEmpty then R.bad else R.ok (Vl.int (minOf is)) h) | none => R.bad).wp Q = _
  cases asInts xs with
  | none => rfl
  | some is => cases hc : is.isEmpty <;> simp [OnO, If, R.wp, hc]
theorem l_reprI : (biV .repr [.int i] h).wp Q = If (big i) (Q (.str (toString i)) h) := by
  show (if big i = true then R.ok (Vl.str (toString i)) h else R.bad).wp Q = _
  cases hc : big i <;> simp [If, R.wp]
theorem cutD_map {α β : Type} (f : α → β) (xs : List α) (lo hi : Option Int) : Dl.cutD (xs.map f) lo hi = (Dl.cutD xs lo hi).map f := by
  unfold Dl.cutD; rw [List.length_map, ← List.map_drop, ← List.map_take]
theorem l_ixl {xs : List Vl} : (ixV (.lst xs) (.int i) h).wp Q = OnO (atI xs i) fun v => Q v h := by
  simp only [ixV]; cases atI xs i <;> rfl
theorem l_catL {xs ys : List Vl} : (binV .add (.lst xs) (.lst ys) h).wp Q = If (decide (xs.length + ys.length ≤ sizeLine)) (Q (.lst (xs ++ ys)) h) := by
  simp only [binV]
  by_cases hc : xs.length + ys.length ≤ sizeLine
  · simp [If, R.wp, hc]
  · simp [If, R.wp, hc]
theorem l_catC {a : Nat} {ys : List Vl} : (binV .add (.cell a) (.lst ys) h).wp Q = OnO h[a]? fun xs => If (decide (xs.length + ys.length ≤ sizeLine)) (Nw h (xs ++ ys) fun p h2 => Q (.cell p) h2) := by
  simp only [binV]
  cases h[a]? with
  | none => rfl
  | some xs =>
    by_cases hc : xs.length + ys.length ≤ sizeLine
    · simp [OnO, If, R.wp, hc, Nw]
    · simp [OnO, If, R.wp, hc]
theorem l_sliceL {xs : List Vl} {lo hi : Option Int} : sliceV (.lst xs) lo hi h = .ok (.lst (Dl.cutD xs lo hi)) h := id rfl
theorem l_sliceF {xs : List Int} {lo hi : Option Int} : (sliceV (.frz xs) lo hi h).wp Q = Nw h (Dl.cutD (xs.map .int) lo hi) fun p h2 => Q (.cell p) h2 := id rfl
theorem itO_lst {xs : List Vl} {K : List Vl × Watch → Prop} : itO h (.lst xs) K = K (xs, []) := by simp [itO, itV, seqOf, watch]
theorem seq_lst {xs : List Vl} : seqOf h (.lst xs) = some xs := id rfl
theorem watch_lst {xs : List Vl} : watch h (.lst xs) = [] := id rfl
theorem isi_lst_int {xs : List Vl} : isiV (.lst xs) .int = false := rfl
theorem isi_lst_bool {xs : List Vl} : isiV (.lst xs) .bool = false := rfl
theorem isi_lst_str {xs : List Vl} : isiV (.lst xs) .str = false := rfl
theorem isi_lst_list {xs : List Vl} : isiV (.lst xs) .list = true := rfl
theorem isi_lst_tuple {xs : List Vl} : isiV (.lst xs) .tuple = false := rfl
/-! freezing -/
def Fz (h h' : Mm) (x : Vl) (Q : Vl → Mm → Prop) (_ : Hid Q := ()) : Prop := (frzV h h' x).wp Q
def FzN (h : Mm) (xs : List Vl) (Q : Vl → Mm → Prop) (_ : Hid Q := ()) : Prop := Nw h xs fun p h2 => Fz h h2 (.cell p) Q
def FzS (h : Mm) (x : Vl) (Q : Vl → Mm → Prop) (_ : Hid Q := ()) : Prop := Fz h h x Q
theorem w_frz {a : E} : (ev C (.frz a) ρ h).wp Q = (ev C a ρ h).wp fun x h' => Fz h h' x Q := by rw [ev, wp_bind]; rfl
theorem w_fcall {f : Str} {es : List E} : (ev C (.fcall f es) ρ h).wp Q = (evs C es ρ h).wp fun xs h1 => (C f xs h1).wp fun x h2 => Fz h1 h2 x Q := by
  rw [ev, wp_bind]; exact wp_ext fun xs h1 => by rw [wp_bind]; rfl
theorem w_fcallk {f : Str} {es : List E} {pm : List Nat} : (ev C (.fcallk f es pm) ρ h).wp Q = (evs C es ρ h).wp fun xs h1 => (C f (pm.map fun i => xs.getD i .non) h1).wp fun x h2 => Fz h1 h2 x Q := by
  rw [ev, wp_bind]; exact wp_ext fun xs h1 => by rw [wp_bind]; rfl
theorem w_fls {es : List E} : (ev C (.fls es) ρ h).wp Q = (evs C es ρ h).wp fun xs h1 => Br (isPL xs) (Q (.lst xs) h1) (Nw h1 xs fun p h2 => Q (.cell p) h2) := by
  rw [ev, wp_bind]
  refine wp_ext fun xs h1 => ?_
  cases hc : isPL xs <;> simp [R.wp, Br, Nw]
theorem fz_p {n : Nat} {h : Mm} {x : Vl} (hp : isP x = true) : ∀ k, fz n h k x = some x
  | 0 => by rw [fz, if_pos hp]
  | k + 1 => by rw [fz_s, if_pos hp]
theorem fzL_p {f : Vl → Option Vl} (hf : ∀ x, isP x = true → f x = some x) : ∀ {xs : List Vl}, isPL xs = true → fzL f xs = some xs
  | [], _ => rfl
  | x :: xs, h => by
    simp only [isPL, Bool.and_eq_true] at h
    simp only [fzL, hf x h.1, fzL_p hf h.2]
theorem fz_c {n c k : Nat} {h : Mm} {xs : List Vl} (hn : n ≤ c) (e : h[c]? = some xs) (hp : isPL xs = true) : fz n h (k + 1) (.cell c) = some (.lst xs) := by
  rw [fz_s, if_neg (by simp [isP])]
  dsimp only
  rw [if_pos hn, e]
  simp only [fzL_p (fun x hx => fz_p hx k) hp, Option.map_some]
theorem fz_cc {n c k : Nat} {h : Mm} {xs ys : List Vl} (hn : n ≤ c) (e : h[c]? = some xs) (hp : fzL (fz n h k) xs = some ys) : fz n h (k + 1) (.cell c) = some (.lst ys) := by
  rw [fz_s, if_neg (by simp [isP])]
  dsimp only
  rw [if_pos hn, e]
  simp only [hp, Option.map_some]
theorem fz_t {n k : Nat} {h : Mm} {xs ys : List Vl} (e : fzL (fz n h k) xs = some ys) : fz n h (k + 1) (.tup xs) = some (.tup ys) := by
  rw [fz_s]
  split
  · rename_i hp
    have := fzL_p (fun x hx => fz_p (n := n) (h := h) hx k) (xs := xs) (by simpa [isP] using hp)
    rw [this] at e; cases e; rfl
  · dsimp only; rw [e]; rfl
theorem fzL_cons {f : Vl → Option Vl} {x y : Vl} {xs ys : List Vl} (h1 : f x = some y) (h2 : fzL f xs = some ys) : fzL f (x :: xs) = some (y :: ys) := by simp only [fzL, h1, h2]
theorem fzL_nil {f : Vl → Option Vl} : fzL f [] = some [] := id rfl
theorem keep_ext {h h' : Mm} (x : Ext h h') : Keep h h' := ⟨x.len, fun i hi => .inl (x.old i hi)⟩
theorem Ext.take {h h' : Mm} (x : Ext h h') : h'.take h.length = h := by
  refine List.ext_getElem? fun j => ?_
  rw [List.getElem?_take]
  split
  · rename_i hj; exact x.old j hj
  · rw [List.getElem?_eq_none (by omega)]
theorem fz_mk {h h' : Mm} {x y : Vl} (e : fz h.length h' 16 x = some y) (k : Keep h h') (q : Q y (h'.take h.length)) : Fz h h' x Q := by
  unfold Fz frzV
  rw [e]
  dsimp only
  rw [if_pos k]; exact q
theorem fz_ext {h h' : Mm} {x y : Vl} (e : fz h.length h' 16 x = some y) (k : Ext h h') (q : Q y h) : Fz h h' x Q := fz_mk e (keep_ext k) (by rw [k.take]; exact q)
theorem fz_same {x : Vl} : Fz h h x Q = Br (isP x) (Q x h) (FzS h x Q) := by
  cases hp : isP x with
  | false => rfl
  | true =>
    unfold Fz frzV
    rw [fz_p hp]
    dsimp only
    rw [if_pos (keep_ext .refl), List.take_length]; rfl
theorem ext_snoc {xs : List Vl} : Ext h (h ++ [xs]) := ⟨by simp, fun m hm => List.getElem?_append_left hm⟩
theorem fz_nw {xs : List Vl} : (Nw h xs fun p h2 => Fz h h2 (.cell p) Q) = Br (isPL xs) (Q (.lst xs) h) (FzN h xs Q) := by
  cases hp : isPL xs with
  | false => rfl
  | true =>
    show (frzV h (h ++ [xs]) (.cell h.length)).wp Q = _
    unfold frzV
    rw [fz_c (Nat.le_refl _) (List.getElem?_concat_length ..) hp]
    dsimp only
    rw [if_pos (keep_ext ext_snoc), ext_snoc.take]; rfl
theorem isP_int {i : Int} : isP (.int i) = true := by simp [isP]
theorem isP_bl {i : Bool} : isP (.bl i) = true := by simp [isP]
theorem isP_str {i : Str} : isP (.str i) = true := by simp [isP]
theorem isP_non : isP .non = true := by simp [isP]
theorem isP_cell {n : Nat} : isP (.cell n) = false := by simp [isP]
theorem isP_frz {i : List Int} : isP (.frz i) = true := by simp [isP]
theorem isP_lst {i : List Vl} : isP (.lst i) = true := by simp [isP]
theorem isP_tup {i : List Vl} : isP (.tup i) = isPL i := by simp [isP]
theorem isPL_nil : isPL [] = true := by simp [isPL]
theorem isPL_cons {x : Vl} {xs : List Vl} : isPL (x :: xs) = (isP x && isPL xs) := by simp [isPL]
theorem isPL_map {α : Type} {f : α → Vl} (hf : ∀ a, isP (f a) = true) : ∀ (xs : List α), isPL (xs.map f) = true
  | [] => isPL_nil
  | x :: xs => by rw [List.map_cons, isPL_cons, hf x, isPL_map hf xs]; rfl
theorem isPL_ints {xs : List Int} : isPL (xs.map .int) = true := isPL_map (fun _ => isP_int) xs
theorem isPL_bls {xs : List Bool} : isPL (xs.map .bl) = true := isPL_map (fun _ => isP_bl) xs
theorem isPL_all {xs : List Vl} (h : ∀ x ∈ xs, isP x = true) : isPL xs = true := by
  induction xs with
  | nil => exact isPL_nil
  | cons x xs ih => rw [isPL_cons, h x (by simp), ih fun y hy => h y (List.mem_cons_of_mem _ hy)]; rfl
theorem isPL_app {xs ys : List Vl} : isPL (xs ++ ys) = (isPL xs && isPL ys) := by
  induction xs with
  | nil => rw [List.nil_append, isPL_nil, Bool.true_and]
  | cons x xs ih => rw [List.cons_append, isPL_cons, isPL_cons, ih, Bool.and_assoc]
theorem isPL_cut {xs : List Vl} (h : isPL xs = true) (lo hi : Option Int) : isPL (Dl.cutD xs lo hi) = true := by
  have mem : ∀ {xs : List Vl}, isPL xs = true → ∀ x ∈ xs, isP x = true := by
    intro xs
    induction xs with
    | nil => intro _ x hx; cases hx
    | cons y ys ih =>
      intro h x hx
      rw [isPL_cons, Bool.and_eq_true] at h
      rcases List.mem_cons.mp hx with rfl | hx
      · exact h.1
      · exact ih h.2 x hx
  refine isPL_all fun x hx => mem h x ?_
  unfold Dl.cutD at hx
  exact List.mem_of_mem_drop (List.mem_of_mem_take hx)
/-! defs without a trace -/
def Pu (T : Str → Option Fn) (k : Nat) (f : Str) (xs : List Vl) (y : Vl) : Prop := ∀ h : Mm, (call T k f xs h).wp fun x h' => Ext h h' ∧ fz h.length h' 16 x = some y
theorem pu_use {T : Str → Option Fn} {k : Nat} {f : Str} {xs : List Vl} {y : Vl} (p : Pu T k f xs y) (q : Q y h) : (call T k f xs h).wp fun x h' => Fz h h' x Q :=
  wp_mono (p h) fun x h' z => fz_ext z.2 z.1 q
theorem pu_eq {T : Str → Option Fn} {k : Nat} {f : Str} {xs : List Vl} {y : Vl} {h : Mm} {Q : Vl → Mm → Prop} (p : Pu T k f xs y) : ((call T k f xs h).wp fun x h' => Fz h h' x Q) = Q y h := by
  have z := p h
  cases e : call T k f xs h with
  | ok x h' =>
    rw [e] at z
    have z : Ext h h' ∧ fz h.length h' 16 x = some y := z
    show Fz h h' x Q = Q y h
    unfold Fz frzV
    rw [z.2]
    dsimp only
    rw [if_pos (keep_ext z.1), z.1.take]; rfl
  | err _ _ => rw [e] at z; exact z.elim
  | bad => rw [e] at z; exact z.elim
theorem pu_eqs {T : Str → Option Fn} {k : Nat} {f : Str} {xs : List Vl} {y : Vl} (p : Pu T k f xs y) : ∀ (h : Mm) (Q : Vl → Mm → Prop), ((call T k f xs h).wp fun x h' => Fz h h' x Q) = Q y h := fun h Q => pu_eq p
def PuE (h h1 : Mm) (x y : Vl) : Prop := Ext h h1 ∧ fz h.length h1 16 x = some y
theorem pu_end {h : Mm} {x : Vl} (hp : isP x = true) : PuE h h x x := ⟨.refl, fz_p hp 16⟩
theorem pu_mk {T : Str → Option Fn} {k : Nat} {f : Str} {fn : Fn} {xs : List Vl} {y : Vl} (hT : T f = some fn) (hl : xs.length = fn.ps) (hn : fn.ps ≤ fn.n)
    (hb : ∀ h : Mm, (exs (call T k) fn.body (xs.map some ++ List.replicate (fn.n - fn.ps) none) h).wp ⟨fun _ h1 => PuE h h1 .non y, fun x h1 => PuE h h1 x y, fun _ _ => False, fun _ _ => False⟩) : Pu T (k + 1) f xs y :=
  fun h => call_wp hT hl hn (hb h)
/-! comprehensions over values -/
theorem lc_pure {cond : Ev → Mm → R Bool} {elt : Ev → Mm → R Vl} {tg : Tg} {xs : List Vl} {K : Vl → Mm → Prop} (p : Vl → Bool) (f : Vl → Vl) (hl : xs.length ≤ 100000)
    (hs : ∀ x ∈ xs, ∃ ρ1, asgT tg x ρ = some ρ1 ∧ (cond ρ1 h).wp fun b h1 => b = p x ∧ h1 = h ∧ (b = true → (elt ρ1 h).wp fun v h2 => v = f x ∧ h2 = h)) (hd : Nw h ((xs.filter p).map f) fun q h2 => K (.cell q) h2) : (lcV cond elt tg [] ρ xs [] h).wp K := by
  refine lc_inv (fun pre acc h' => h' = h ∧ acc = (pre.filter p).map f ∧ pre.length ≤ xs.length) ⟨rfl, rfl, Nat.zero_le _⟩ ?_ ?_ ?_
  · rintro pre acc h' ⟨rfl, rfl, hl2⟩
    refine ⟨still_0, ?_⟩
    rw [List.length_map]
    have := List.length_filter_le p pre
    exact Nat.lt_of_le_of_lt (Nat.le_trans this (Nat.le_trans hl2 hl)) (by decide)
  · rintro pre x post acc h' e ⟨rfl, rfl, hl2⟩
    obtain ⟨ρ1, e1, z⟩ := hs x (by rw [e]; simp)
    have hl3 : (pre ++ [x]).length ≤ xs.length := by rw [e]; simp
    refine ⟨ρ1, e1, wp_mono z fun b h1 ⟨eb, eh, k⟩ => ?_⟩
    subst eh
    cases b with
    | true =>
      refine br_yes rfl (wp_mono (k rfl) fun v h2 ⟨ev, eh⟩ => ⟨eh, ?_, hl3⟩)
      rw [ev, List.filter_append, List.map_append]
      simp [← eb]
    | false =>
      refine br_no rfl ⟨rfl, ?_, hl3⟩
      rw [List.filter_append, List.map_append]
      simp [← eb]
  · rintro acc h' ⟨rfl, rfl, _⟩
    exact hd
end
theorem line_le {n : Nat} (h : n ≤ 100000) : decide (n ≤ sizeLine) = true := decide_eq_true (Nat.le_trans h (by decide))
theorem line_lt {n : Nat} (h : n ≤ 100000) : decide (n < sizeLine) = true := decide_eq_true (Nat.lt_of_le_of_lt h (by decide))
theorem ixN_k {n : Nat} {k : Nat} (h : k < n) : ixN n (k : Int) = some k := by
  unfold ixN; rw [if_pos (by omega), if_pos (by omega)]; simp
theorem ixN_0 {n : Nat} : ixN (n + 1) 0 = some 0 := by
  unfold ixN; rw [if_pos (by omega), if_pos (by omega)]; rfl
theorem ixN_1 {n : Nat} : ixN (n + 2) 1 = some 1 := by
  unfold ixN; rw [if_pos (by omega), if_pos (by omega)]; rfl
theorem ixN_2 {n : Nat} : ixN (n + 3) 2 = some 2 := by
  unfold ixN; rw [if_pos (by omega), if_pos (by omega)]; rfl
theorem bigOf {i : Int} (h : i.natAbs < 2 ^ 1000) : big i = true := by unfold big; exact decide_eq_true h
theorem smallOf {i : Int} (h1 : -(2 ^ 62) ≤ i) (h2 : i < 2 ^ 62) : small i = true := by unfold small; rw [decide_eq_true h1, decide_eq_true h2]; rfl
end IR
namespace IR
open PySem PySem.Spec PyProof.Rows L2 Dl
theorem isi_non_int {b : Bool} {i : Int} {s : Str} {xs : List Vl} {n : Nat} {ns : List Int} : isiV .non .int = false := rfl
theorem isi_non_bool {b : Bool} {i : Int} {s : Str} {xs : List Vl} {n : Nat} {ns : List Int} : isiV .non .bool = false := rfl
theorem isi_non_str {b : Bool} {i : Int} {s : Str} {xs : List Vl} {n : Nat} {ns : List Int} : isiV .non .str = false := rfl
theorem isi_non_list {b : Bool} {i : Int} {s : Str} {xs : List Vl} {n : Nat} {ns : List Int} : isiV .non .list = false := rfl
theorem isi_non_tuple {b : Bool} {i : Int} {s : Str} {xs : List Vl} {n : Nat} {ns : List Int} : isiV .non .tuple = false := rfl
theorem isi_bl_int {b : Bool} {i : Int} {s : Str} {xs : List Vl} {n : Nat} {ns : List Int} : isiV (.bl b) .int = true := rfl
theorem isi_bl_bool {b : Bool} {i : Int} {s : Str} {xs : List Vl} {n : Nat} {ns : List Int} : isiV (.bl b) .bool = true := rfl
theorem isi_bl_str {b : Bool} {i : Int} {s : Str} {xs : List Vl} {n : Nat} {ns : List Int} : isiV (.bl b) .str = false := rfl
theorem isi_bl_list {b : Bool} {i : Int} {s : Str} {xs : List Vl} {n : Nat} {ns : List Int} : isiV (.bl b) .list = false := rfl
theorem isi_bl_tuple {b : Bool} {i : Int} {s : Str} {xs : List Vl} {n : Nat} {ns : List Int} : isiV (.bl b) .tuple = false := rfl
theorem isi_int_int {b : Bool} {i : Int} {s : Str} {xs : List Vl} {n : Nat} {ns : List Int} : isiV (.int i) .int = true := rfl
theorem isi_int_bool {b : Bool} {i : Int} {s : Str} {xs : List Vl} {n : Nat} {ns : List Int} : isiV (.int i) .bool = false := rfl
theorem isi_int_str {b : Bool} {i : Int} {s : Str} {xs : List Vl} {n : Nat} {ns : List Int} : isiV (.int i) .str = false := rfl
theorem isi_int_list {b : Bool} {i : Int} {s : Str} {xs : List Vl} {n : Nat} {ns : List Int} : isiV (.int i) .list = false := rfl
theorem isi_int_tuple {b : Bool} {i : Int} {s : Str} {xs : List Vl} {n : Nat} {ns : List Int} : isiV (.int i) .tuple = false := rfl
theorem isi_str_int {b : Bool} {i : Int} {s : Str} {xs : List Vl} {n : Nat} {ns : List Int} : isiV (.str s) .int = false := rfl
theorem isi_str_bool {b : Bool} {i : Int} {s : Str} {xs : List Vl} {n : Nat} {ns : List Int} : isiV (.str s) .bool = false := rfl
theorem isi_str_str {b : Bool} {i : Int} {s : Str} {xs : List Vl} {n : Nat} {ns : List Int} : isiV (.str s) .str = true := rfl
theorem isi_str_list {b : Bool} {i : Int} {s : Str} {xs : List Vl} {n : Nat} {ns : List Int} : isiV (.str s) .list = false := rfl
theorem isi_str_tuple {b : Bool} {i : Int} {s : Str} {xs : List Vl} {n : Nat} {ns : List Int} : isiV (.str s) .tuple = false := rfl
theorem isi_tup_int {b : Bool} {i : Int} {s : Str} {xs : List Vl} {n : Nat} {ns : List Int} : isiV (.tup xs) .int = false := rfl
theorem isi_tup_bool {b : Bool} {i : Int} {s : Str} {xs : List Vl} {n : Nat} {ns : List Int} : isiV (.tup xs) .bool = false := rfl
theorem isi_tup_str {b : Bool} {i : Int} {s : Str} {xs : List Vl} {n : Nat} {ns : List Int} : isiV (.tup xs) .str = false := rfl
theorem isi_tup_list {b : Bool} {i : Int} {s : Str} {xs : List Vl} {n : Nat} {ns : List Int} : isiV (.tup xs) .list = false := rfl
theorem isi_tup_tuple {b : Bool} {i : Int} {s : Str} {xs : List Vl} {n : Nat} {ns : List Int} : isiV (.tup xs) .tuple = true := rfl
theorem isi_cell_int {b : Bool} {i : Int} {s : Str} {xs : List Vl} {n : Nat} {ns : List Int} : isiV (.cell n) .int = false := rfl
theorem isi_cell_bool {b : Bool} {i : Int} {s : Str} {xs : List Vl} {n : Nat} {ns : List Int} : isiV (.cell n) .bool = false := rfl
theorem isi_cell_str {b : Bool} {i : Int} {s : Str} {xs : List Vl} {n : Nat} {ns : List Int} : isiV (.cell n) .str = false := rfl
theorem isi_cell_list {b : Bool} {i : Int} {s : Str} {xs : List Vl} {n : Nat} {ns : List Int} : isiV (.cell n) .list = true := rfl
theorem isi_cell_tuple {b : Bool} {i : Int} {s : Str} {xs : List Vl} {n : Nat} {ns : List Int} : isiV (.cell n) .tuple = false := rfl
theorem isi_frz_int {b : Bool} {i : Int} {s : Str} {xs : List Vl} {n : Nat} {ns : List Int} : isiV (.frz ns) .int = false := rfl
theorem isi_frz_bool {b : Bool} {i : Int} {s : Str} {xs : List Vl} {n : Nat} {ns : List Int} : isiV (.frz ns) .bool = false := rfl
theorem isi_frz_str {b : Bool} {i : Int} {s : Str} {xs : List Vl} {n : Nat} {ns : List Int} : isiV (.frz ns) .str = false := rfl
theorem isi_frz_list {b : Bool} {i : Int} {s : Str} {xs : List Vl} {n : Nat} {ns : List Int} : isiV (.frz ns) .list = true := rfl
theorem isi_frz_tuple {b : Bool} {i : Int} {s : Str} {xs : List Vl} {n : Nat} {ns : List Int} : isiV (.frz ns) .tuple = false := rfl
end IR

set_option Elab.async false
set_option linter.all false
set_option maxRecDepth 100000
namespace VM
open PySem PySem.Spec PyProof.Rows L2 Dl
abbrev Op := IR.Op
abbrev Cp := IR.Cp
abbrev Ty := IR.Ty
abbrev Tg := IR.Tg
abbrev Exn := IR.Exn
abbrev D := PyData
/-! ## slots, results -/
/-- nothing known; a value; a list of this run alone; one that the caller gave to be changed -/
inductive Sl where
  | un
  | v (d : D)
  | ow (xs : List D)
  | io (n : Nat) (xs : List D)
instance : Inhabited Sl := ⟨.un⟩
abbrev Ev := List Sl
inductive VV where
  | d (x : D)
  | ref (i : Nat)
inductive R (α : Type) where
  | ok (a : α) (ρ : Ev)
  | err (x : Exn) (ρ : Ev)
  | bad
@[simp] def R.bind {α β : Type} : R α → (α → Ev → R β) → R β
  | .ok a ρ, f => f a ρ
  | .err x ρ, _ => .err x ρ
  | .bad, _ => .bad
inductive RS where
  | next (ρ : Ev)
  | ret (d : D) (ρ : Ev)
  | reto (xs : List D) (ρ : Ev)
  | brk (ρ : Ev)
  | cont (ρ : Ev)
  | err (x : Exn) (ρ : Ev)
  | bad
@[simp] def R.bindS {α : Type} : R α → (α → Ev → RS) → RS
  | .ok a ρ, f => f a ρ
  | .err x ρ, _ => .err x ρ
  | .bad, _ => .bad
inductive Ret where
  | d (x : D)
  | ow (xs : List D)
inductive RC where
  | ok (r : Ret) (outs : List (List D))
  | err (x : Exn) (outs : List (List D))
  | bad
/-! ## the language -/
inductive Bi where | len | abs | max | min | toInt | tuple | sum | all | any | repr | sorted deriving DecidableEq
inductive E where
  | int (i : Int) | bl (b : Bool) | non | str (s : Str)
  | loc (i : Nat)
  | bin (o : Op) (a b : E)
  | cmp (o : Cp) (a b : E)
  | chain (o p : Cp) (a b c : E)
  | and (a b : E) | or (a b : E) | not (a : E) | neg (a : E)
  | ite (c a b : E)
  | tup (es : List E)
  | fr (o : E)
  | lst (es : List E)
  | rep (es : List E) (n : E)
  | slice (a : E) (lo hi : Option E)
  | lof (a : E)
  | lzip (a b : E)
  | lc (tg : Tg) (it : E) (ifs : List E) (elt : E) (vs : List Nat)
  | call (f : Str) (es : List E)
  | callk (f : Str) (es : List E) (perm : List Nat)
  | ix (a b : E)
  | bi (b : Bi) (es : List E)
  | isi (e : E) (t : Ty)
  | app (o e : E)
  | rng1 (a : E) | rng2 (a b : E) | rng3 (a b c : E) | zip (a b : E) | enum (a : E) (n : Option E) | over (a : E)
  | tru (a : E)
  | stop
inductive S where
  | frz (is : List Nat)
  | set (i : Nat) (e : E)
  | seto (i : Nat) (e : E)
  | par (is : List Nat) (es : List (Bool × E))
  | tset (tg : Tg) (e : E)
  | setix (o i e : E)
  | ife (c : E) (a b : List S)
  | forS (tg : Tg) (it : E) (body : List S)
  | ret (e : E) | rets (i : Nat) | reto (e : E) | retN
  | expr (e : E) | pass | brk | cont | stop
/-! ## operators -/
def datL : List VV → Option (List D)
  | [] => some []
  | .d x :: xs => (datL xs).map (x :: ·)
  | .ref _ :: _ => none
/-- what it is worth now -/
def val (ρ : Ev) : VV → Option D
  | .d x => some x
  | .ref i => match ρ[i]? with
    | some (.ow xs) => some (.list xs)
    | some (.io _ xs) => some (.list xs)
    | _ => none
def truth : D → Option Bool
  | .bool b => some b
  | .none => some false
  | .tuple xs => some (!xs.isEmpty)
  | .list xs => some (!xs.isEmpty)
  | .int i => some (decide (i ≠ 0))
  | _ => none
def repL (xs : List D) (n : Nat) : List D := (List.replicate n xs).flatten
def binD (o : Op) (x y : D) : Option D :=
  match x, y with
  | .int i, .int j =>
    match o with
    | .add => some (.int (i + j))
    | .sub => some (.int (i - j))
    | .mul => if IR.wid i && IR.wid j then some (.int (i * j)) else none
    | .fdiv => if decide (0 < j) && IR.big j then some (.int (i / j)) else none
    | .mod => if decide (0 < j) then some (.int (i % j)) else none
    | .pow => if IR.big i && decide (0 ≤ j) && decide (j ≤ 1000) then some (.int (i ^ j.toNat)) else none
  | .list xs, .list ys =>
    match o with
    | .add => if decide (xs.length + ys.length ≤ sizeLine) then some (.list (xs ++ ys)) else none
    | _ => none
  | _, _ => none
def eqD (x y : D) : Option Bool := match x, y with
  | .str s, .str t => some (decide (s = t))
  | _, _ => if SeqAt.shaped x && SeqAt.shaped y then some (PyData.eqv x y) else none
def isN : D → Bool
  | .none => true
  | _ => false
def cmpD (o : Cp) (x y : D) : Option Bool :=
  match o with
  | .eq => eqD x y
  | .ne => (eqD x y).map (!·)
  | .is => if isN y then some (isN x) else none
  | .isNot => if isN y then some (!isN x) else none
  | .lt => match x, y with
    | .int i, .int j => some (decide (i < j))
    | _, _ => none
  | .le => match x, y with
    | .int i, .int j => some (decide (i ≤ j))
    | _, _ => none
  | .gt => match x, y with
    | .int i, .int j => some (decide (j < i))
    | _, _ => none
  | .ge => match x, y with
    | .int i, .int j => some (decide (j ≤ i))
    | _, _ => none
def ixD (x y : D) : Option D :=
  match y with
  | .int i => match x with
    | .list xs => atI xs i
    | .tuple xs => atI xs i
    | .str z => if decide (z.length ≤ sizeLine) then (atI z.cps.toList i).map fun c => .str ⟨#[c]⟩ else none
    | _ => none
  | _ => none
def isiD : D → Ty → Bool
  | .int _, .int => true
  | .bool _, .int => true
  | .bool _, .bool => true
  | .str _, .str => true
  | .tuple _, .tuple => true
  | .list _, .list => true
  | _, _ => false
def asInts : List D → Option (List Int)
  | [] => some []
  | .int i :: xs => (asInts xs).map (i :: ·)
  | _ :: _ => none
def asBools : List D → Option (List Bool)
  | [] => some []
  | .bool i :: xs => (asBools xs).map (i :: ·)
  | _ :: _ => none
def seqD : D → Option (List D)
  | .list xs => some xs
  | .tuple xs => some xs
  | _ => none
def lstD : D → Option (List D)
  | .list xs => some xs
  | _ => none
def kindD : D → Bool
  | .none => true | .bool _ => true | .int _ => true | .str _ => true | .list _ => true | .tuple _ => true
  | _ => false
def biD (b : Bi) (xs : List D) : Option D :=
  match b, xs with
  | .len, [x] => (seqD x).map fun ys => .int ys.length
  | .abs, [.int i] => some (.int i.natAbs)
  | .max, [.int i, .int j] => some (.int (Max.max i j))
  | .min, [.int i, .int j] => some (.int (Min.min i j))
  | .max, [x] => ((lstD x).bind asInts).bind fun is => if is.isEmpty then none else some (.int (IR.maxOf is))
  | .min, [x] => ((lstD x).bind asInts).bind fun is => if is.isEmpty then none else some (.int (IR.minOf is))
  | .toInt, [.int i] => some (.int i)
  | .toInt, [.bool b] => some (.int (if b = true then 1 else 0))
  | .tuple, [x] => (seqD x).map .tuple
  | .sum, [x] => ((lstD x).bind asInts).map fun is => .int is.sum
  | .all, [x] => ((lstD x).bind asBools).map fun bs => .bool (bs.all id)
  | .any, [x] => ((lstD x).bind asBools).map fun bs => .bool (bs.any id)
  | .repr, [.int i] => if IR.big i then some (.str (toString i)) else none
  | .repr, [x] => (seqD x).bind fun _ => if IR.reprOk x then some (.str x.shown) else none
  | _, _ => none
/-! ## targets -/
mutual
def asgT : Tg → D → Ev → Option Ev
  | .nm i, v, ρ => some (ρ.set i (.v v))
  | .tup ts, v, ρ => match seqD v with
    | some xs => asgTs ts xs ρ
    | none => none
def asgTs : List Tg → List D → Ev → Option Ev
  | [], [], ρ => some ρ
  | t :: ts, x :: xs, ρ => match asgT t x ρ with
    | some ρ1 => asgTs ts xs ρ1
    | none => none
  | _, _, _ => none
end
def wipeE (ρ : Ev) : List Nat → Ev
  | [] => ρ
  | v :: vs => (wipeE ρ vs).set v .un
/-- behind a comprehension: its names are as they were -/
def restE (ρ0 : Ev) (ρ : Ev) : List Nat → Ev
  | [] => ρ
  | v :: vs => (restE ρ0 ρ vs).set v (ρ0.getD v .un)
def plainS : Sl → Bool
  | .un => true
  | .v _ => true
  | _ => false
def forV (body : Ev → RS) (tg : Tg) : List D → Ev → RS
  | [], ρ => .next ρ
  | x :: xs, ρ => match asgT tg x ρ with
    | none => .bad
    | some ρ1 => match body ρ1 with
      | .next ρ2 => forV body tg xs ρ2
      | .cont ρ2 => forV body tg xs ρ2
      | .brk ρ2 => .next ρ2
      | r => r
def lcV (cond : Ev → R Bool) (elt : Ev → R D) (tg : Tg) (vs : List Nat) (ρ0 : Ev) : List D → List D → Ev → R (List D)
  | [], acc, ρ => .ok acc (restE ρ0 ρ vs)
  | x :: xs, acc, ρ => if decide (acc.length < sizeLine) then
      match asgT tg x ρ with
      | none => .bad
      | some ρ1 => match cond ρ1 with
        | .ok true ρ2 => match elt ρ2 with
          | .ok v ρ3 => lcV cond elt tg vs ρ0 xs (acc ++ [v]) (wipeE ρ3 vs)
          | _ => .bad
        | .ok false ρ2 => lcV cond elt tg vs ρ0 xs acc (wipeE ρ2 vs)
        | _ => .bad
    else .bad
def zipD (xs ys : List D) : List D := (xs.zip ys).map fun p => .tuple [p.1, p.2]
def enumD (xs : List D) (n : Int) : List D := xs.zipIdx.map fun p => .tuple [.int (n + (p.2 : Nat)), p.1]
def rngC (i c : Int) (n : Nat) : List D := (List.range n).map fun k => .int (i + (k : Nat) * c)
def rngV (i : Int) (n : Nat) : List D := (List.range n).map fun k => .int (i + (k : Nat))
/-! ## calls: what is given to be changed -/
def takeA : List VV → Ev → Nat → Option (List Sl)
  | [], _, _ => some []
  | .d x :: vs, ρ, n => (takeA vs ρ n).map (.v x :: ·)
  | .ref i :: vs, ρ, n => match ρ[i]? with
    | some (.ow xs) => (takeA vs (ρ.set i .un) (n + 1)).map (.io n xs :: ·)
    | some (.io _ xs) => (takeA vs (ρ.set i .un) (n + 1)).map (.io n xs :: ·)
    | _ => none
def recon (s : Option Sl) (ys : List D) : Sl := match s with
  | some (.ow _) => .ow ys
  | some (.io n _) => .io n ys
  | _ => .un
def putA : List VV → List (List D) → Ev → Option Ev
  | [], [], ρ => some ρ
  | .d _ :: vs, outs, ρ => putA vs outs ρ
  | .ref i :: vs, ys :: outs, ρ => (putA vs outs (ρ.set i .un)).map fun ρ2 => ρ2.set i (recon ρ[i]? ys)
  | _, _, _ => none
def outsOf : List Sl → Ev → Option (List (List D))
  | [], _ => some []
  | .io n _ :: as, .io m ys :: ss => if n = m then (outsOf as ss).map (ys :: ·) else none
  | .io _ _ :: _, _ => none
  | _ :: as, _ :: ss => outsOf as ss
  | _ :: _, [] => none
def callV (C : Str → List Sl → RC) (f : Str) (vs : List VV) (ρ : Ev) : R Ret :=
  match takeA vs ρ 0 with
  | none => .bad
  | some as => match C f as with
    | .ok r outs => match putA vs outs ρ with
      | some ρ' => .ok r ρ'
      | none => .bad
    | .err x outs => match putA vs outs ρ with
      | some ρ' => .err x ρ'
      | none => .bad
    | .bad => .bad
def Ret.dat : Ret → D
  | .d x => x
  | .ow xs => .list xs
/-- a value of what there is -/
def opt {α : Type} (o : Option α) (ρ : Ev) : R α := match o with
  | some x => .ok x ρ
  | none => .bad
def vals (ρ : Ev) : List VV → Option (List D)
  | [] => some []
  | x :: xs => match val ρ x, vals ρ xs with
    | some d, some ds => some (d :: ds)
    | _, _ => none
def frzE (ρ : Ev) (i : Nat) : Option Ev := match ρ[i]? with
  | some (.ow xs) => some (ρ.set i (.v (.list xs)))
  | some (.io _ _) => none
  | _ => some ρ
def frzEs : List Nat → Ev → Option Ev
  | [], ρ => some ρ
  | i :: is, ρ => match frzE ρ i with
    | some ρ1 => frzEs is ρ1
    | none => none
def setE (ρ : Ev) (i : Nat) (s : Sl) : Option Ev := some (ρ.set i s)
def setixE (ρ : Ev) (o : VV) (i x : D) : Option Ev := match o, i with
  | .ref n, .int k => match ρ[n]? with
    | some (.ow xs) => (ixN xs.length k).map fun j => ρ.set n (.ow (xs.set j x))
    | some (.io m xs) => (ixN xs.length k).map fun j => ρ.set n (.io m (xs.set j x))
    | _ => none
  | _, _ => none
def appE (ρ : Ev) (n : Nat) (x : D) : Option Ev := match ρ[n]? with
  | some (.ow xs) => if decide (xs.length < sizeLine) then some (ρ.set n (.ow (xs ++ [x]))) else none
  | some (.io m xs) => if decide (xs.length < sizeLine) then some (ρ.set n (.io m (xs ++ [x]))) else none
  | _ => none
def setAll : List Nat → List Sl → Ev → Option Ev
  | [], [], ρ => some ρ
  | i :: is, x :: xs, ρ => match setE ρ i x with
    | some ρ1 => setAll is xs ρ1
    | none => none
  | _, _, _ => none
/-! ## running it -/
/-- a value, no list that may change -/
def dR (x : VV) (ρ : Ev) : R D := match x with
  | .d z => .ok z ρ
  | .ref _ => .bad
section
variable (C : Str → List Sl → RC)
mutual
def ev : E → Ev → R VV
  | .int i, ρ => .ok (.d (.int i)) ρ
  | .bl b, ρ => .ok (.d (.bool b)) ρ
  | .non, ρ => .ok (.d .none) ρ
  | .str s, ρ => .ok (.d (.str s)) ρ
  | .loc i, ρ => match ρ[i]? with
    | some (.v d) => .ok (.d d) ρ
    | some (.ow _) => .ok (.ref i) ρ
    | some (.io _ _) => .ok (.ref i) ρ
    | _ => .bad
  | .bin o a b, ρ => ((ev a ρ).bind dR).bind fun x ρ1 => ((ev b ρ1).bind dR).bind fun y ρ2 => (opt (binD o x y) ρ2).bind fun z ρ3 => .ok (.d z) ρ3
  | .cmp o a b, ρ => (ev a ρ).bind fun x ρ1 => (ev b ρ1).bind fun y ρ2 => (opt (val ρ2 x) ρ2).bind fun x ρ3 => (opt (val ρ3 y) ρ3).bind fun y ρ4 => (opt (cmpD o x y) ρ4).bind fun z ρ5 => .ok (.d (.bool z)) ρ5
  | .chain o p a b c, ρ => ((ev a ρ).bind dR).bind fun x ρ1 => ((ev b ρ1).bind dR).bind fun y ρ2 => (opt (cmpD o x y) ρ2).bind fun t ρ3 => match t with
    | true => ((ev c ρ3).bind dR).bind fun z ρ4 => (opt (cmpD p y z) ρ4).bind fun z ρ5 => .ok (.d (.bool z)) ρ5
    | false => .ok (.d (.bool false)) ρ3
  | .and a b, ρ => ((ev a ρ).bind dR).bind fun x ρ1 => match x with
    | .bool true => ev b ρ1
    | .bool false => .ok (.d (.bool false)) ρ1
    | _ => .bad
  | .or a b, ρ => ((ev a ρ).bind dR).bind fun x ρ1 => match x with
    | .bool true => .ok (.d (.bool true)) ρ1
    | .bool false => ev b ρ1
    | _ => .bad
  | .not a, ρ => ((ev a ρ).bind dR).bind fun x ρ1 => match x with
    | .bool b => .ok (.d (.bool (!b))) ρ1
    | _ => .bad
  | .neg a, ρ => ((ev a ρ).bind dR).bind fun x ρ1 => match x with
    | .int i => .ok (.d (.int (-i))) ρ1
    | _ => .bad
  | .ite c a b, ρ => (tv c ρ).bind fun x ρ1 => match x with
    | true => ev a ρ1
    | false => ev b ρ1
  | .tup es, ρ => (eds es ρ).bind fun xs ρ1 => if decide (xs.length ≤ sizeLine) then .ok (.d (.tuple xs)) ρ1 else .bad
  | .fr o, ρ => (eo o ρ).bind fun xs ρ1 => .ok (.d (.list xs)) ρ1
  | .call f es, ρ => (evs es ρ).bind fun xs ρ1 => (callV C f xs ρ1).bind fun r ρ2 => .ok (.d r.dat) ρ2
  | .callk f es pm, ρ => (evs es ρ).bind fun xs ρ1 => (callV C f (pm.map fun i => xs.getD i (.d .none)) ρ1).bind fun r ρ2 => .ok (.d r.dat) ρ2
  | .ix a b, ρ => (ev a ρ).bind fun x ρ1 => ((ev b ρ1).bind dR).bind fun y ρ2 => (opt (val ρ2 x) ρ2).bind fun x ρ3 => (opt (ixD x y) ρ3).bind fun z ρ4 => .ok (.d z) ρ4
  | .bi b es, ρ => (evs es ρ).bind fun xs ρ1 => (opt (vals ρ1 xs) ρ1).bind fun ds ρ2 => (opt (biD b ds) ρ2).bind fun z ρ3 => .ok (.d z) ρ3
  | .isi e t, ρ => ((ev e ρ).bind dR).bind fun x ρ1 => if kindD x then .ok (.d (.bool (isiD x t))) ρ1 else .bad
  | .app o e, ρ => (ev o ρ).bind fun x ρ1 => match x with
    | .ref n => (opt (val ρ1 (.ref n)) ρ1).bind fun _ ρ1 => ((ev e ρ1).bind dR).bind fun y ρ2 => (opt (appE ρ2 n y) ρ2).bind fun ρ3 _ => .ok (.d .none) ρ3
    | _ => .bad
  | _, _ => .bad
/-- a new list -/
def eo : E → Ev → R (List D)
  | .lst es, ρ => (eds es ρ).bind fun xs ρ1 => if decide (xs.length ≤ sizeLine) then .ok xs ρ1 else .bad
  | .rep es n, ρ => (eds es ρ).bind fun xs ρ1 => if decide (xs.length ≤ sizeLine) then ((ev n ρ1).bind dR).bind fun k ρ2 => match k with
    | .int i => if IR.small i && decide (xs.length * i.toNat ≤ sizeLine) then .ok (repL xs i.toNat) ρ2 else .bad
    | _ => .bad
    else .bad
  | .slice a lo hi, ρ => (ev a ρ).bind fun x ρ1 => (ep lo ρ1).bind fun l ρ2 => (ep hi ρ2).bind fun u ρ3 => (opt (val ρ3 x) ρ3).bind fun x ρ4 => (opt (lstD x) ρ4).bind fun xs ρ5 => .ok (Dl.cutD xs l u) ρ5
  | .lof a, ρ => (ev a ρ).bind fun x ρ1 => (opt (val ρ1 x) ρ1).bind fun x ρ2 => opt (seqD x) ρ2
  | .lzip a b, ρ => ((ev a ρ).bind dR).bind fun x ρ1 => ((ev b ρ1).bind dR).bind fun y ρ2 => (opt (lstD x) ρ2).bind fun xs ρ3 => (opt (lstD y) ρ3).bind fun ys ρ4 => if decide (xs.length < sizeLine) then .ok (zipD xs ys) ρ4 else .bad
  | .lc tg it ifs elt vs, ρ => (ei it ρ).bind fun xs ρ1 => if vs.all fun i => plainS (ρ1.getD i .un) then lcV (fun ρ => tvL ifs ρ) (fun ρ => (ev elt ρ).bind dR) tg vs ρ1 xs [] (wipeE ρ1 vs) else .bad
  | .call f es, ρ => (evs es ρ).bind fun xs ρ1 => (callV C f xs ρ1).bind fun r ρ2 => match r with
    | .ow xs => .ok xs ρ2
    | .d _ => .bad
  | .callk f es pm, ρ => (evs es ρ).bind fun xs ρ1 => (callV C f (pm.map fun i => xs.getD i (.d .none)) ρ1).bind fun r ρ2 => match r with
    | .ow xs => .ok xs ρ2
    | .d _ => .bad
  | _, _ => .bad
def tv : E → Ev → R Bool
  | .and a b, ρ => (tv a ρ).bind fun x ρ1 => match x with
    | true => tv b ρ1
    | false => .ok false ρ1
  | .or a b, ρ => (tv a ρ).bind fun x ρ1 => match x with
    | true => .ok true ρ1
    | false => tv b ρ1
  | .not a, ρ => (tv a ρ).bind fun x ρ1 => .ok (!x) ρ1
  | .tru a, ρ => (ev a ρ).bind fun x ρ1 => (opt (val ρ1 x) ρ1).bind fun x ρ2 => opt (truth x) ρ2
  | _, _ => .bad
def tvL : List E → Ev → R Bool
  | [], ρ => .ok true ρ
  | [c], ρ => tv c ρ
  | _ :: _ :: _, _ => .bad
def evs : List E → Ev → R (List VV)
  | [], ρ => .ok [] ρ
  | e :: es, ρ => (ev e ρ).bind fun x ρ1 => (evs es ρ1).bind fun xs ρ2 => .ok (x :: xs) ρ2
def eds : List E → Ev → R (List D)
  | [], ρ => .ok [] ρ
  | e :: es, ρ => ((ev e ρ).bind dR).bind fun x ρ1 => (eds es ρ1).bind fun xs ρ2 => .ok (x :: xs) ρ2
def ep : Option E → Ev → R (Option Int)
  | none, ρ => .ok none ρ
  | some e, ρ => ((ev e ρ).bind dR).bind fun x ρ1 => match x with
    | .int i => .ok (some i) ρ1
    | _ => .bad
/-- items that are walked -/
def ei : E → Ev → R (List D)
  | .rng1 a, ρ => ((ev a ρ).bind dR).bind fun x ρ1 => match x with
    | .int j => if IR.small j then .ok (rngV 0 j.toNat) ρ1 else .bad
    | _ => .bad
  | .rng2 a b, ρ => ((ev a ρ).bind dR).bind fun x ρ1 => ((ev b ρ1).bind dR).bind fun y ρ2 => match x, y with
    | .int i, .int j => if IR.small i && IR.small j then .ok (rngV i (j - i).toNat) ρ2 else .bad
    | _, _ => .bad
  | .rng3 a b c, ρ => ((ev a ρ).bind dR).bind fun x ρ1 => ((ev b ρ1).bind dR).bind fun y ρ2 => ((ev c ρ2).bind dR).bind fun z ρ3 => match x, y, z with
    | .int i, .int j, .int k => if IR.small i && IR.small j && decide (k = -1) then .ok (rngC i (-1) (i - j).toNat) ρ3 else .bad
    | _, _, _ => .bad
  | .zip a b, ρ => ((ev a ρ).bind dR).bind fun x ρ1 => ((ev b ρ1).bind dR).bind fun y ρ2 => (opt (lstD x) ρ2).bind fun xs ρ3 => (opt (lstD y) ρ3).bind fun ys ρ4 => .ok (zipD xs ys) ρ4
  | .enum a none, ρ => ((ev a ρ).bind dR).bind fun x ρ1 => (opt (lstD x) ρ1).bind fun xs ρ2 => .ok (enumD xs 0) ρ2
  | .over a, ρ => ((ev a ρ).bind dR).bind fun x ρ1 => opt (seqD x) ρ1
  | _, _ => .bad
end
def ed (e : E) (ρ : Ev) : R D := (ev C e ρ).bind dR
/-- values and new lists -/
def esl : List (Bool × E) → Ev → R (List Sl)
  | [], ρ => .ok [] ρ
  | (true, e) :: es, ρ => (eo C e ρ).bind fun x ρ1 => (esl es ρ1).bind fun xs ρ2 => .ok (.ow x :: xs) ρ2
  | (false, e) :: es, ρ => (ed C e ρ).bind fun x ρ1 => (esl es ρ1).bind fun xs ρ2 => .ok (.v x :: xs) ρ2
mutual
def ex : S → Ev → RS
  | .frz is, ρ => match frzEs is ρ with
    | some ρ1 => .next ρ1
    | none => .bad
  | .set i e, ρ => (ed C e ρ).bindS fun x ρ1 => match setE ρ1 i (.v x) with
    | some ρ2 => .next ρ2
    | none => .bad
  | .seto i e, ρ => (eo C e ρ).bindS fun x ρ1 => match setE ρ1 i (.ow x) with
    | some ρ2 => .next ρ2
    | none => .bad
  | .par is es, ρ => (esl C es ρ).bindS fun xs ρ1 => match setAll is xs ρ1 with
    | some ρ2 => .next ρ2
    | none => .bad
  | .tset tg e, ρ => (ed C e ρ).bindS fun x ρ1 => match asgT tg x ρ1 with
    | some ρ2 => .next ρ2
    | none => .bad
  | .setix o i e, ρ => (ed C e ρ).bindS fun v ρ1 => (ev C o ρ1).bindS fun x ρ2 => (ed C i ρ2).bindS fun y ρ3 => match setixE ρ3 x y v with
    | some ρ4 => .next ρ4
    | none => .bad
  | .ife c a b, ρ => (tv C c ρ).bindS fun x ρ1 => match x with
    | true => exs a ρ1
    | false => exs b ρ1
  | .forS tg it body, ρ => (ei C it ρ).bindS fun xs ρ1 => forV (fun ρ => exs body ρ) tg xs ρ1
  | .ret e, ρ => (ed C e ρ).bindS fun x ρ1 => .ret x ρ1
  | .rets i, ρ => match ρ[i]? with
    | some (.ow xs) => .reto xs (ρ.set i .un)
    | _ => .bad
  | .reto e, ρ => (eo C e ρ).bindS fun xs ρ1 => .reto xs ρ1
  | .retN, ρ => .ret .none ρ
  | .expr e, ρ => (ev C e ρ).bindS fun _ ρ1 => .next ρ1
  | .pass, ρ => .next ρ
  | .brk, ρ => .brk ρ
  | .cont, ρ => .cont ρ
  | .stop, _ => .bad
def exs : List S → Ev → RS
  | [], ρ => .next ρ
  | s :: ss, ρ => match ex s ρ with
    | .next ρ1 => exs ss ρ1
    | r => r
end
end
structure Fn where
  n : Nat
  ps : Nat
  body : List S
def RS.toC (as : List Sl) : RS → RC
  | .next ρ => match outsOf as ρ with
    | some o => .ok (.d .none) o
    | none => .bad
  | .ret d ρ => match outsOf as ρ with
    | some o => .ok (.d d) o
    | none => .bad
  | .reto xs ρ => match outsOf as ρ with
    | some o => .ok (.ow xs) o
    | none => .bad
  | .err x ρ => match outsOf as ρ with
    | some o => .err x o
    | none => .bad
  | _ => .bad
/-- calls to a depth of k -/
def call (T : Str → Option Fn) : Nat → Str → List Sl → RC
  | 0, _, _ => .bad
  | k + 1, f, as => match T f with
    | some fn => if as.length = fn.ps ∧ fn.ps ≤ fn.n then (exs (call T k) fn.body (as ++ List.replicate (fn.n - fn.ps) .un)).toC as else .bad
    | none => .bad
end VM

set_option Elab.async false
set_option linter.all false
set_option maxRecDepth 100000
namespace VM
open PySem PySem.Spec PyProof.Rows L2 Dl
open IR (notStar notComp notSlice notSet notTup isTup plainB opC cpC isLst kindC isLoc isVis isGl idxOf slotR slotW tyC permC kwNames useB ownC swapNo swapNs swapOk nameE nmOf lcOk cTg cTgs)
/-! ## from the program's text -/
/-- b: names and scope (its fns empty); fns: defs with parameters, orders of keywords, which parameters they change -/
structure Cc where
  b : IR.Cc
  fns : List (Str × (List Str × List (List Str) × List Nat))
  mu : List Nat
  rm : Bool
def blkOf (c : Cc) (scope : Scope) : Cc := { c with b := IR.blkOf c.b scope }
def Bi.nm : Bi → Str
  | .len => "len" | .abs => "abs" | .max => "max" | .min => "min" | .toInt => "int" | .tuple => "tuple" | .sum => "sum" | .all => "all" | .any => "any" | .repr => "repr" | .sorted => "sorted"
def biC (x : Str) : Option Bi := [Bi.len, .abs, .max, .min, .toInt, .tuple, .sum, .all, .any, .repr, .sorted].find? fun b => b.nm == x
structure Cr where
  v : E
  t : E
  i : E
  o : E
  z : Option (E × E) := none
def dfl (v : E) : Cr := ⟨v, .tru v, .over v, .stop, none⟩
def stp : Cr := ⟨.stop, .stop, .stop, .stop, none⟩
def dflO (o : E) : Cr := ⟨.fr o, .tru (.fr o), .over (.fr o), o, none⟩
def dflC (v : E) : Cr := ⟨v, .tru v, .over v, v, none⟩
def itOk (tup : Bool) : E → Bool
  | .zip _ _ => tup
  | .enum _ _ => tup
  | _ => true
def nameC (c : Cc) (x : Str) : E := match slotR c.b x with
    | some i => .loc i
    | none => if isGl c.b x then match c.b.cons.lookup x with
      | some v => .int v
      | none => .stop else .stop
def attrC (at' : Str) (o : Expr) (p1 : Pos) (args : List Expr) (kws : List Keyword) (p2 : Pos) (vo : E) (vs : List E) : Cr :=
  match args, kws, vs with
  | [e], [], [v] => if at' == ("append" : Str) && plainB o && notStar e && (p1.endLine == p2.line) then ⟨.app vo v, .stop, .stop, .stop, none⟩ else stp
  | _, _, _ => stp
def isiC (c : Cc) (es : List Expr) (v : E) : Cr :=
  match es with
  | [.Name t _] => match tyC t with
    | some t => if useB c.b t.nm then dfl (.isi v t) else stp
    | none => stp
  | _ => stp
def bltC (c : Cc) (f : Str) (es : List Expr) (v : E) (z : Option (E × E)) (vs : List E) : Cr :=
  if f == ("isinstance" : Str) then isiC c es v
  else if f == ("range" : Str) then match vs with
    | [] => ⟨.stop, .stop, .rng1 v, .stop, none⟩
    | [b] => ⟨.stop, .stop, .rng2 v b, .stop, none⟩
    | [b, d] => ⟨.stop, .stop, .rng3 v b d, .stop, none⟩
    | _ => stp
  else if f == ("enumerate" : Str) then match vs with
    | [] => ⟨.stop, .stop, .enum v none, .stop, none⟩
    | _ => stp
  else if f == ("zip" : Str) then match vs with
    | [b] => ⟨.stop, .stop, .zip v b, .stop, some (v, b)⟩
    | _ => stp
  else if f == ("list" : Str) then match vs with
    | [] => match z with
      | some (a, b) => dflO (.lzip a b)
      | none => dflO (.lof v)
    | _ => stp
  else match biC f with
    | some b => dfl (.bi b (v :: vs))
    | none => stp
def callC (c : Cc) (f : Str) (args : List Expr) (kws : List Keyword) (vs : List E) (zs : List (Option (E × E))) (ks : List E) : Cr :=
  if isGl c.b f then
    match args, kws, vs, zs with
    | _ :: es, [], v :: vs, z :: _ => if args.all notStar then match c.fns.lookup f with
        | some _ => dflC (.call f (v :: vs))
        | none => if c.b.bts.contains f then bltC c f es v z vs else stp
      else stp
    | [], _ :: _, _, _ => match c.fns.lookup f, kwNames kws with
      | some (ps, ords, _), some ns => if ords.contains ns then dflC (.callk f ks (permC ns ps)) else stp
      | _, _ => stp
    | _, _, _, _ => stp
  else stp
mutual
def tgS : Tg → List Nat
  | .nm i => [i]
  | .tup ts => tgSs ts
def tgSs : List Tg → List Nat
  | [] => []
  | t :: ts => tgS t ++ tgSs ts
end
def lcC (c : Cc) (scope : Scope) (tg it : Expr) (ifs : List Expr) (vi : E) (vt : List E) (ve : E) : Cr :=
  match cTg (blkOf c scope).b tg with
  | some t => if blkC c.b.N c.b.sc scope (ownC c.b scope) && !(ownC c.b scope).isEmpty && notSet it && decide (ifs.length ≤ 1) && itOk (isTup tg) vi && (tgS t).all (fun j => ((ownC c.b scope).map (·.2)).contains j) then
      dflO (.lc t vi vt ve ((ownC c.b scope).map (·.2))) else stp
  | none => stp
def isMul : Op → Bool
  | .mul => true
  | _ => false
mutual
def cE (c : Cc) : Expr → Cr
  | .Constant (.int i) _ _ => dfl (.int i)
  | .Constant (.bool b) _ _ => dfl (.bl b)
  | .Constant .none _ _ => dfl .non
  | .Constant (.str s) _ _ => dfl (.str s)
  | .Name x _ => dfl (nameC c x)
  | .BinOp (.List es p1) o b _ => match opC o with
    | some o => if isMul o && es.all notStar then dflO (.rep (cEs c es) (cE c b).v) else dfl (.bin o (cE c (.List es p1)).v (cE c b).v)
    | none => stp
  | .BinOp a o b _ => match opC o with
    | some o => dfl (.bin o (cE c a).v (cE c b).v)
    | none => stp
  | .UnaryOp .Not a _ => ⟨.not (cE c a).v, .not (cE c a).t, .stop, .stop, none⟩
  | .UnaryOp .USub a _ => dfl (.neg (cE c a).v)
  | .Compare a [o] [b] _ => match cpC o with
    | some o => if notSet b then dfl (.cmp o (cE c a).v (cE c b).v) else stp
    | none => stp
  | .Compare a [o, p] [b, d] _ => match cpC o, cpC p with
    | some o, some p => if notSet d then dfl (.chain o p (cE c a).v (cE c b).v (cE c d).v) else stp
    | _, _ => stp
  | .BoolOp .And es _ => ⟨cAnd c es, cAndT c es, .stop, .stop, none⟩
  | .BoolOp .Or es _ => ⟨cOr c es, cOrT c es, .stop, .stop, none⟩
  | .IfExp t a b _ => ⟨.ite (cE c t).t (cE c a).v (cE c b).v, .stop, .over (.ite (cE c t).t (cE c a).v (cE c b).v), .stop, none⟩
  | .Tuple es _ _ => if es.all notStar then ⟨.tup (cEs c es), .stop, .over (.tup (cEs c es)), .stop, none⟩ else stp
  | .List es _ => if es.all notStar then dflO (.lst (cEs c es)) else stp
  | .Subscript a (.Slice lo hi none _) _ => dflO (.slice (cE c a).v (cO c lo) (cO c hi))
  | .Subscript a b _ => if notSlice b && notTup b then dfl (.ix (cE c a).v (cE c b).v) else stp
  | .Call (.Attribute o at' p1) args kws p2 => attrC at' o p1 args kws p2 (cE c o).v (cEs c args)
  | .Call (.Name f _) args kws _ => callC c f args kws (cEs c args) (cZs c args) (cKs c kws)
  | .ListComp elt [⟨tg, it, ifs, 0⟩] scope _ => lcC c scope tg it ifs (cE c it).i (cTs (blkOf c scope) ifs) (cE (blkOf c scope) elt).v
  | _ => stp
def cEs (c : Cc) : List Expr → List E
  | [] => []
  | e :: es => (cE c e).v :: cEs c es
def cZs (c : Cc) : List Expr → List (Option (E × E))
  | [] => []
  | e :: es => (cE c e).z :: cZs c es
def cTs (c : Cc) : List Expr → List E
  | [] => []
  | e :: es => (cE c e).t :: cTs c es
def cAnd (c : Cc) : List Expr → E
  | [] => .stop
  | [a] => (cE c a).v
  | a :: b :: es => .and (cE c a).v (cAnd c (b :: es))
def cOr (c : Cc) : List Expr → E
  | [] => .stop
  | [a] => (cE c a).v
  | a :: b :: es => .or (cE c a).v (cOr c (b :: es))
def cAndT (c : Cc) : List Expr → E
  | [] => .stop
  | [a] => (cE c a).t
  | a :: b :: es => .and (cE c a).t (cAndT c (b :: es))
def cOrT (c : Cc) : List Expr → E
  | [] => .stop
  | [a] => (cE c a).t
  | a :: b :: es => .or (cE c a).t (cOrT c (b :: es))
def cO (c : Cc) : Option Expr → Option E
  | none => none
  | some e => some (cE c e).v
def cKs (c : Cc) : List Keyword → List E
  | [] => []
  | ⟨_, e, _⟩ :: ks => (cE c e).v :: cKs c ks
end
/-! ## names that go on as values: their lists do not change any more -/
def muS (c : Cc) (x : Str) : List Nat := match slotR c.b x with
  | some i => if c.mu.contains i then [i] else []
  | none => []
def posMu (mus : List Nat) (i : Nat) : Bool := mus.contains i
mutual
/-- as a value -/
def escE (c : Cc) : Expr → List Nat
  | .Name x _ => muS c x
  | .BinOp a _ b _ => escE c a ++ escE c b
  | .UnaryOp .Not a _ => escB c a
  | .UnaryOp _ a _ => escE c a
  | .Compare a _ bs _ => escB c a ++ escBs c bs
  | .BoolOp _ es _ => escBs c es
  | .IfExp t a b _ => escB c t ++ (escE c a ++ escE c b)
  | .Tuple es _ _ => escEs c es
  | .List es _ => escEs c es
  | .Subscript a b _ => escB c a ++ escE c b
  | .Slice a b _ _ => escEo c a ++ escEo c b
  | .Starred a _ => escE c a
  | .Call (.Attribute o _ _) args _ _ => escB c o ++ escEs c args
  | .Call (.Name f _) args kws _ => match c.fns.lookup f with
    | some (ps, _, mus) => escA c mus 0 args ++ escK c ps mus kws
    | none => if f == ("len" : Str) || f == ("repr" : Str) || f == ("list" : Str) then escBs c args else escEs c args
  | .ListComp elt gs _ _ => escE c elt ++ escG c gs
  | _ => []
/-- where it is only looked at -/
def escB (c : Cc) : Expr → List Nat
  | .Name _ _ => []
  | .BinOp a _ b _ => escE c a ++ escE c b
  | .UnaryOp .Not a _ => escB c a
  | .UnaryOp _ a _ => escE c a
  | .Compare a _ bs _ => escB c a ++ escBs c bs
  | .BoolOp _ es _ => escBs c es
  | .IfExp t a b _ => escB c t ++ (escE c a ++ escE c b)
  | .Tuple es _ _ => escEs c es
  | .List es _ => escEs c es
  | .Subscript a b _ => escB c a ++ escE c b
  | .Slice a b _ _ => escEo c a ++ escEo c b
  | .Starred a _ => escE c a
  | .Call (.Attribute o _ _) args _ _ => escB c o ++ escEs c args
  | .Call (.Name f _) args kws _ => match c.fns.lookup f with
    | some (ps, _, mus) => escA c mus 0 args ++ escK c ps mus kws
    | none => if f == ("len" : Str) || f == ("repr" : Str) || f == ("list" : Str) then escBs c args else escEs c args
  | .ListComp elt gs _ _ => escE c elt ++ escG c gs
  | _ => []
def escEo (c : Cc) : Option Expr → List Nat
  | none => []
  | some e => escE c e
def escEs (c : Cc) : List Expr → List Nat
  | [] => []
  | e :: es => escE c e ++ escEs c es
def escBs (c : Cc) : List Expr → List Nat
  | [] => []
  | e :: es => escB c e ++ escBs c es
def escA (c : Cc) (mus : List Nat) : Nat → List Expr → List Nat
  | _, [] => []
  | i, e :: es => (if posMu mus i then escB c e else escE c e) ++ escA c mus (i + 1) es
def escK (c : Cc) (ps : List Str) (mus : List Nat) : List Keyword → List Nat
  | [] => []
  | ⟨n, e, _⟩ :: ks => (if (match n with | some n => (match idxOf n ps with | some i => posMu mus i | none => false) | none => false) then escB c e else escE c e) ++ escK c ps mus ks
def escG (c : Cc) : List Comprehension → List Nat
  | [] => []
  | ⟨_, it, ifs, _⟩ :: gs => escE c it ++ (escBs c ifs ++ escG c gs)
end
/-! ## statements -/
def isMu (c : Cc) (i : Nat) : Bool := c.mu.contains i
def isStop : E → Bool
  | .stop => true
  | _ => false
def setC (c : Cc) (i : Nat) (r : Cr) : S := if isMu c i && !isStop r.o then .seto i r.o else .set i r.v
def muName (c : Cc) : Expr → Option Nat
  | .Name x _ => match slotR c.b x with
    | some i => if isMu c i then some i else none
    | none => none
  | _ => none
def retC (c : Cc) (e : Expr) (r : Cr) : S := if c.rm then match muName c e with
    | some i => .rets i
    | none => if isStop r.o then .ret r.v else .reto r.o
  else .ret r.v
def retEsc (c : Cc) (e : Expr) : List Nat := if c.rm then match muName c e with
    | some _ => []
    | none => escE c e
  else escE c e
/-- a, b = ..: values and own lists -/
def parC (c : Cc) : List Nat → List Expr → List (Bool × E)
  | i :: is, e :: es => (if isMu c i && !isStop (cE c e).o then (true, (cE c e).o) else (false, (cE c e).v)) :: parC c is es
  | _, _ => []
/-- what a statement looks at itself -/
def escS (c : Cc) : Stmt → List Nat
  | .Assign [.Subscript o i _] e _ => escE c e ++ (escB c o ++ escE c i)
  | .Assign _ e _ => escE c e
  | .If t _ _ _ => escB c t
  | .For _ it _ _ _ => escE c it
  | .Return (some e) _ => retEsc c e
  | .Expr e _ => escB c e
  | _ => []
mutual
def cS (c : Cc) : Stmt → S
  | .Assign [.Name x py] e p => match slotW c.b x with
    | some i => if notComp e then setC c i (cE c e) else if lcOk c.b x py e then setC c i (cE c e) else .stop
    | none => .stop
  | .Assign [.Tuple ts k1 p1] (.Tuple vs k2 p2) p => match cTgs c.b ts with
    | some tgs => if swapNo ts vs || !((swapNs c.b ts).length == ts.length) then (if vs.all notStar then (if ts.all nameE && decide (vs.length ≤ 1000) && decide ((tgs.filterMap nmOf).length = vs.length) then .par (tgs.filterMap nmOf) (parC c (tgs.filterMap nmOf) vs) else .tset (.tup tgs) (.tup (cEs c vs))) else .stop)
      else if swapOk c.b ts vs && ts.all nameE then .par (tgs.filterMap nmOf) (parC c (tgs.filterMap nmOf) vs)
      else .stop
    | none => .stop
  | .Assign [.Tuple ts k1 p1] e p => if notTup e then match cTgs c.b ts with
      | some tgs => .tset (.tup tgs) (cE c e).v
      | none => .stop
    else .stop
  | .Assign [.Subscript o i p1] e p => if notComp e && notSlice i && notTup i then .setix (cE c o).v (cE c i).v (cE c e).v else .stop
  | .If t a b _ => .ife (cE c t).t (cSs c a) (cSs c b)
  | .For tg it body [] _ => match cTg c.b tg with
    | some t => if notSet it && itOk (isTup tg) (cE c it).i then .forS t (cE c it).i (cSs c body) else .stop
    | none => .stop
  | .Return (some e) _ => retC c e (cE c e)
  | .Return none _ => .retN
  | .Expr e _ => if notComp e then .expr (cE c e).v else .stop
  | .Pass _ => .pass
  | .Break _ => .brk
  | .Continue _ => .cont
  | _ => .stop
def cSs (c : Cc) : List Stmt → List S
  | [] => []
  | s :: ss => match escS c s with
    | [] => cS c s :: cSs c ss
    | i :: is => .frz (i :: is) :: cS c s :: cSs c ss
end
end VM

set_option Elab.async false
set_option linter.all false
set_option maxRecDepth 100000
namespace VM
open PySem PySem.Spec PyProof.Rows L2 Dl
/-! ## a whole program -/
def cc (G : IR.Pg) (fi : IR.FnI) : Cc := { b := { N := fi.N, sc := defScope fi.st, vs := [], blk := false, fns := [], cons := G.cons, bts := G.bts }, fns := G.tab.map fun g => (g.x, (g.ps, g.ords, g.mu.filter fun i => decide (i < g.ps.length))), mu := fi.mu, rm := fi.rm }
def fnV (G : IR.Pg) (fi : IR.FnI) : Fn := { n := fi.N.length, ps := fi.ps.length, body := cSs (cc G fi) (defBody fi.st) }
def TV (G : IR.Pg) : Str → Option Fn := fun x => (G.at x).map (fnV G)
end VM

set_option Elab.async false
set_option linter.all false
set_option maxRecDepth 100000
set_option maxHeartbeats 2000000
namespace VM
open PySem PySem.Spec PyProof.Rows L2 Dl
abbrev Mg := Str → Option Value
abbrev rL (xs : List D) : List Rv := xs.map Rv.d
/-! ## slots and memory -/
inductive SRel (pins : List Addr) : Sl → Rv → Prop
  | un (r : Rv) : SRel pins .un r
  | v (d : D) : SRel pins (.v d) (.d d)
  | ow (xs : List D) (a : Addr) : SRel pins (.ow xs) (.cell a)
  | io (n : Nat) (xs : List D) (a : Addr) : pins[n]? = some a → SRel pins (.io n xs) (.cell a)
inductive ERel (pins : List Addr) : Ev → List Rv → Prop
  | nil : ERel pins [] []
  | cons {o : Sl} {r : Rv} {ρ : Ev} {rs : List Rv} : SRel pins o r → ERel pins ρ rs → ERel pins (o :: ρ) (r :: rs)
def cOf : Sl → Rv → Mem
  | .ow xs, .cell a => [(a, Is (rL xs))]
  | .io _ xs, .cell a => [(a, Is (rL xs))]
  | _, _ => []
def mOf : Ev → List Rv → Mem
  | o :: ρ, r :: rs => cOf o r ++ mOf ρ rs
  | _, _ => []
def VOk (pins : List Addr) (ρE : Ev) (ρ : List Rv) (M F : Mem) : Prop := ERel pins ρE ρ ∧ ∃ G, M.Perm (mOf ρE ρ ++ (F ++ G))
def list? : Sl → Option (List D)
  | .ow xs => some xs
  | .io _ xs => some xs
  | _ => none
section
variable {pins : List Addr} {ρE : Ev} {ρ : List Rv} {M F : Mem}
theorem ERel.len : ∀ {ρE : Ev} {ρ : List Rv}, ERel pins ρE ρ → ρE.length = ρ.length
  | _, _, .nil => rfl
  | _, _, .cons _ b => by rw [List.length_cons, List.length_cons, ERel.len b]
theorem ERel.get : ∀ {ρE : Ev} {ρ : List Rv} (i : Nat) {o : Sl}, ERel pins ρE ρ → ρE[i]? = some o → ∃ r, ρ[i]? = some r ∧ SRel pins o r
  | _, _, i, _, .nil, h => by simp at h
  | _, _, 0, _, .cons a _, h => by simp at h; subst h; exact ⟨_, rfl, a⟩
  | _, _, i + 1, _, .cons _ b, h => by
    obtain ⟨q, h1, h2⟩ := ERel.get i b (by simpa using h)
    exact ⟨q, by simpa using h1, h2⟩
theorem ERel.set {o : Sl} {r : Rv} (s : SRel pins o r) : ∀ {ρE : Ev} {ρ : List Rv} (i : Nat), ERel pins ρE ρ → ERel pins (ρE.set i o) (ρ.set i r)
  | _, _, _, .nil => .nil
  | _, _, 0, .cons _ b => .cons s b
  | _, _, i + 1, .cons a b => .cons a (ERel.set s i b)
/-- a slot's own part of the memory apart -/
theorem mOf_at : ∀ {ρE : Ev} {ρ : List Rv} (i : Nat) {o : Sl} {r : Rv}, ρE[i]? = some o → ρ[i]? = some r → ∃ N, (mOf ρE ρ).Perm (cOf o r ++ N) ∧ ∀ o' r', (mOf (ρE.set i o') (ρ.set i r')).Perm (cOf o' r' ++ N)
  | [], _, i, _, _, h, _ => by simp at h
  | _ :: _, [], i, _, _, _, h => by simp at h
  | a :: ρE, q :: ρ, 0, o, r, h, h2 => by
    simp at h h2; subst h h2
    exact ⟨mOf ρE ρ, .refl _, fun o' r' => .refl _⟩
  | a :: ρE, q :: ρ, i + 1, o, r, h, h2 => by
    obtain ⟨N, h3, h4⟩ := mOf_at i (ρE := ρE) (ρ := ρ) (by simpa using h) (by simpa using h2)
    have sw : ∀ X : Mem, (cOf a q ++ (X ++ N)).Perm (X ++ (cOf a q ++ N)) := fun X => by
      rw [← List.append_assoc, ← List.append_assoc]
      exact List.perm_append_comm.append_right N
    exact ⟨cOf a q ++ N, (h3.append_left _).trans (sw _), fun o' r' => ((h4 o' r').append_left (cOf a q)).trans (sw _)⟩
theorem set_same {α : Type} {xs : List α} {i : Nat} {v : α} (h : xs[i]? = some v) : xs.set i v = xs := by
  refine List.ext_getElem? fun j => ?_
  rw [List.getElem?_set]
  split
  · rename_i e; subst e
    split
    · exact h.symm
    · rename_i hl
      rw [List.getElem?_eq_none (by omega)] at h; cases h
  · rfl
theorem SRel.cell {o : Sl} {r : Rv} {xs : List D} (s : SRel pins o r) (h : list? o = some xs) : ∃ a, r = .cell a ∧ cOf o r = [(a, Is (rL xs))] := by
  cases s with
  | un => cases h
  | v => cases h
  | ow ys a => simp [list?] at h; subst h; exact ⟨a, rfl, rfl⟩
  | io n ys a hp => simp [list?] at h; subst h; exact ⟨a, rfl, rfl⟩
theorem SRel.upd {o : Sl} {r : Rv} {xs : List D} (s : SRel pins o r) (h : list? o = some xs) (ys : List D) : SRel pins (recon (some o) ys) r ∧ ∃ a, r = .cell a ∧ cOf (recon (some o) ys) r = [(a, Is (rL ys))] := by
  cases s with
  | un => cases h
  | v => cases h
  | ow zs a => exact ⟨.ow ys a, a, rfl, rfl⟩
  | io n zs a hp => exact ⟨.io n ys a hp, a, rfl, rfl⟩
/-- the list that a slot holds -/
theorem VOk.own (w : VOk pins ρE ρ M F) {i : Nat} {o : Sl} {xs : List D} (h : ρE[i]? = some o) (hl : list? o = some xs) : ∃ a, ρ[i]? = some (.cell a) ∧ (a, Is (rL xs)) ∈ M ∧
    (∀ {Ma Mb ys}, M = Ma ++ (a, Is (rL xs)) :: Mb → VOk pins (ρE.set i (recon (some o) ys)) ρ (Ma ++ (a, Is (rL ys)) :: Mb) F) ∧
    (∀ {Ma Mb o' r'}, M = Ma ++ (a, Is (rL xs)) :: Mb → SRel pins o' r' → cOf o' r' = [] → VOk pins (ρE.set i o') (ρ.set i r') (Ma ++ Mb) F) := by
  obtain ⟨er, G, pm⟩ := w
  obtain ⟨r, h1, s⟩ := er.get i h
  obtain ⟨a, rfl, hc⟩ := s.cell hl
  obtain ⟨N, p1, p2⟩ := mOf_at i h h1
  rw [hc] at p1
  have pm2 : M.Perm ((a, Is (rL xs)) :: (N ++ (F ++ G))) := pm.trans (by simpa using p1.append_right (F ++ G))
  refine ⟨a, h1, pm2.mem_iff.mpr (by simp), fun {Ma Mb ys} e => ?_, fun {Ma Mb o' r'} e s' c' => ?_⟩
  · subst e
    have pm3 := (List.perm_middle.symm.trans pm2).cons_inv
    obtain ⟨s2, a', ea, c2⟩ := s.upd hl ys
    cases ea
    refine ⟨?_, G, ?_⟩
    · have := er.set s2 i
      rwa [set_same h1] at this
    · have q := p2 (recon (some o) ys) (.cell a)
      rw [c2, set_same h1] at q
      refine List.perm_middle.trans ((pm3.cons _).trans ?_)
      exact (q.append_right (F ++ G)).symm
  · subst e
    have pm3 := (List.perm_middle.symm.trans pm2).cons_inv
    refine ⟨er.set s' i, G, pm3.trans ?_⟩
    have q := p2 o' r'
    rw [c'] at q
    exact (q.append_right (F ++ G)).symm
theorem has_of_mem {c : Addr} {P : List Rv → Prop} : ∀ {M : Mem}, (c, P) ∈ M → Has c P M
  | p :: M, h => by
    rcases List.mem_cons.mp h with e | h
    · subst e; exact .h
    · exact .t (has_of_mem h)
theorem split_of_mem {p : Addr × (List Rv → Prop)} {M : Mem} (h : p ∈ M) : ∃ Ma Mb, M = Ma ++ p :: Mb := List.append_of_mem h
theorem VOk.get (w : VOk pins ρE ρ M F) {i : Nat} {d : D} (h : ρE[i]? = some (.v d)) : ρ[i]? = some (.d d) := by
  obtain ⟨r, h1, s⟩ := w.1.get i h
  cases s; exact h1
/-- a slot is stored -/
theorem VOk.set (w : VOk pins ρE ρ M F) {i : Nat} {o' : Sl} {r' : Rv} {F' : Mem} (s : SRel pins o' r') (hF : F.Perm (cOf o' r' ++ F')) : VOk pins (ρE.set i o') (ρ.set i r') M F' := by
  obtain ⟨er, G, pm⟩ := w
  by_cases hi : i < ρE.length
  · have h : ρE[i]? = some ρE[i] := List.getElem?_eq_getElem hi
    obtain ⟨r, h1, _⟩ := er.get i h
    obtain ⟨N, p1, p2⟩ := mOf_at i h h1
    refine ⟨er.set s i, cOf ρE[i] r ++ G, pm.trans ?_⟩
    have q := p2 o' r'
    refine ((p1.append_right (F ++ G)).trans ?_).trans ((q.append_right (F' ++ (cOf ρE[i] r ++ G))).symm)
    have z := ((hF.append_right G).append_left N).append_left (cOf ρE[i] r)
    simp only [List.append_assoc] at z ⊢
    refine z.trans ?_
    -- c ++ (N ++ (o ++ (F' ++ G)))  ~  o ++ (N ++ (F' ++ (c ++ G)))
    generalize cOf ρE[i] r = c
    generalize cOf o' r' = o
    have e1 : (c ++ (N ++ (o ++ (F' ++ G)))).Perm (N ++ (o ++ (F' ++ (G ++ c)))) := by
      refine List.perm_append_comm.trans ?_
      simp only [List.append_assoc]; exact .refl _
    refine e1.trans ?_
    have e2 : (N ++ (o ++ (F' ++ (G ++ c)))).Perm (o ++ (N ++ (F' ++ (G ++ c)))) := by
      rw [← List.append_assoc, ← List.append_assoc o]
      exact List.perm_append_comm.append_right _
    refine e2.trans ((((List.perm_append_comm).append_left F').append_left N).append_left o)
  · have e := er.len
    rw [List.set_eq_of_length_le (by omega), List.set_eq_of_length_le (by omega)]
    refine ⟨er, cOf o' r' ++ G, pm.trans (List.Perm.append_left _ ?_)⟩
    refine (hF.append_right G).trans ?_
    rw [← List.append_assoc F']
    exact List.perm_append_comm.append_right G
theorem VOk.setv (w : VOk pins ρE ρ M F) (i : Nat) (d : D) : VOk pins (ρE.set i (.v d)) (ρ.set i (.d d)) M F := w.set (.v d) (.refl _)
theorem VOk.setu (w : VOk pins ρE ρ M F) (i : Nat) (r : Rv) : VOk pins (ρE.set i .un) (ρ.set i r) M F := w.set (.un r) (by cases r <;> exact .refl _)
theorem VOk.seto {a : Addr} {xs : List D} (w : VOk pins ρE ρ M ((a, Is (rL xs)) :: F)) (i : Nat) : VOk pins (ρE.set i (.ow xs)) (ρ.set i (.cell a)) M F := w.set (.ow xs a) (.refl _)
theorem VOk.new {a : Addr} {P : List Rv → Prop} (w : VOk pins ρE ρ M F) : VOk pins ρE ρ ((a, P) :: M) ((a, P) :: F) := ⟨w.1, let ⟨G, pm⟩ := w.2; ⟨G, (pm.cons _).trans List.perm_middle.symm⟩⟩
theorem VOk.drop {F' : Mem} (w : VOk pins ρE ρ M (F' ++ F)) : VOk pins ρE ρ M F := ⟨w.1, let ⟨G, pm⟩ := w.2; ⟨F' ++ G, pm.trans (List.Perm.append_left _ (by
  rw [List.append_assoc, ← List.append_assoc F]
  rw [← List.append_assoc]
  exact List.perm_append_comm.append_right G))⟩⟩
theorem VOk.drop1 {p : Addr × (List Rv → Prop)} (w : VOk pins ρE ρ M (p :: F)) : VOk pins ρE ρ M F := VOk.drop (F' := [p]) w
theorem VOk.frame {F' : Mem} (w : VOk pins ρE ρ M F) (h : F.Perm F') : VOk pins ρE ρ M F' := ⟨w.1, let ⟨G, pm⟩ := w.2; ⟨G, pm.trans ((h.append_right G).append_left _)⟩⟩
/-- a list of the frame is no longer kept apart -/
theorem VOk.out {p : Addr × (List Rv → Prop)} (w : VOk pins ρE ρ M (p :: F)) : ∃ Ma Mb, M = Ma ++ p :: Mb ∧ VOk pins ρE ρ (Ma ++ Mb) F := by
  obtain ⟨er, G, pm⟩ := w
  have pm2 : M.Perm (p :: (mOf ρE ρ ++ (F ++ G))) := pm.trans List.perm_middle
  obtain ⟨Ma, Mb, e⟩ := split_of_mem (pm2.mem_iff.mpr (by simp) : p ∈ M)
  subst e
  exact ⟨Ma, Mb, rfl, er, G, (List.perm_middle.symm.trans pm2).cons_inv⟩
end
/-! ## what is wished of a result -/
abbrev XRel := IR.XRel
def PV {α : Type} (mg : Mg) (pins : List Addr) (ρ : List Rv) (F : Mem) (r : R α) (Q : α → Ev → Prop) (Ξ : Xi) : Prop :=
  match r with
  | .ok a ρE' => Q a ρE'
  | .err x ρE' => ∀ e M', XRel mg x e → VOk pins ρE' ρ M' F → Ξ e ρ M'
  | .bad => False
def VRel (ρ : List Rv) : VV → Rv → Prop
  | .d x, r => r = .d x
  | .ref i, r => ∃ a, ρ[i]? = some (.cell a) ∧ r = .cell a
def QV (pins : List Addr) (ρ : List Rv) (F : Mem) (Φ : Pst) : VV → Ev → Prop := fun x ρE' => ∀ r M', VRel ρ x r → VOk pins ρE' ρ M' F → Φ r M'
def QD (pins : List Addr) (ρ : List Rv) (F : Mem) (Φ : Pst) : D → Ev → Prop := fun x ρE' => ∀ M', VOk pins ρE' ρ M' F → Φ (.d x) M'
def QO (pins : List Addr) (ρ : List Rv) (F : Mem) (Φ : Pst) : List D → Ev → Prop := fun xs ρE' => ∀ a M', VOk pins ρE' ρ M' ((a, Is (rL xs)) :: F) → Φ (.cell a) M'
def QT (pins : List Addr) (ρ : List Rv) (F : Mem) (Ψ : Bool → Mem → Prop) : Bool → Ev → Prop := fun x ρE' => ∀ M', VOk pins ρE' ρ M' F → Ψ x M'
def QL (pins : List Addr) (ρ : List Rv) (F : Mem) (Ψ : List Rv → Mem → Prop) : List D → Ev → Prop := fun xs ρE' => ∀ M', VOk pins ρE' ρ M' F → Ψ (rL xs) M'
section
variable {α β : Type} {mg : Mg} {pins : List Addr} {ρ : List Rv} {F : Mem} {Ξ : Xi}
theorem pv_bind {r : R α} {f : α → Ev → R β} {Q : β → Ev → Prop} (p : PV mg pins ρ F (r.bind f) Q Ξ) : PV mg pins ρ F r (fun a ρE' => PV mg pins ρ F (f a ρE') Q Ξ) Ξ := by
  cases r <;> exact p
theorem PV.imp {r : R α} {Q Q' : α → Ev → Prop} (p : PV mg pins ρ F r Q Ξ) (k : ∀ a ρE', Q a ρE' → Q' a ρE') : PV mg pins ρ F r Q' Ξ := by
  cases r with
  | ok a ρE' => exact k _ _ p
  | err x ρE' => exact p
  | bad => exact p
theorem pv_opt {o : Option α} {ρE : Ev} {Q : α → Ev → Prop} (p : PV mg pins ρ F (opt o ρE) Q Ξ) : ∃ x, o = some x ∧ Q x ρE := by
  cases o with
  | none => exact p.elim
  | some x => exact ⟨x, rfl, p⟩
theorem pv_optb {o : Option α} {ρE : Ev} {f : α → Ev → R β} {Q : β → Ev → Prop} (p : PV mg pins ρ F ((opt o ρE).bind f) Q Ξ) : ∃ x, o = some x ∧ PV mg pins ρ F (f x ρE) Q Ξ := by
  cases o with
  | none => exact p.elim
  | some x => exact ⟨x, rfl, p⟩
end
end VM

set_option Elab.async false
set_option linter.all false
set_option maxRecDepth 100000
set_option maxHeartbeats 2000000
namespace VM
open PySem PySem.Spec PyProof.Rows L2 Dl
section
variable {X : Cx} {pins : List Addr} {ρE : Ev} {ρ : List Rv} {M F : Mem} {Φ : Pst}
theorem val_has (w : VOk pins ρE ρ M F) {i : Nat} {d : D} (e : val ρE (.ref i) = some d) : ∃ a xs, ρ[i]? = some (.cell a) ∧ d = .list xs ∧ Has a (Is (rL xs)) M := by
  simp only [val] at e
  split at e
  · rename_i xs h
    cases e
    obtain ⟨a', h2, h3, _⟩ := w.own h rfl
    exact ⟨a', xs, h2, rfl, has_of_mem h3⟩
  · rename_i n xs h
    cases e
    obtain ⟨a', h2, h3, _⟩ := w.own h rfl
    exact ⟨a', xs, h2, rfl, has_of_mem h3⟩
  · cases e
theorem val_snap (w : VOk pins ρE ρ M F) {x : VV} {r : Rv} {d : D} (rx : VRel ρ x r) (e : val ρE x = some d) : Snap M r d := by
  cases x with
  | d x => cases (show r = .d x from rx); cases (show some x = some d from e); exact .d
  | ref i =>
    obtain ⟨a, h1, rfl⟩ := rx
    obtain ⟨a', xs, h2, rfl, hm⟩ := val_has w e
    rw [h1] at h2; cases h2
    exact .c hm .all
theorem bin_ok {o : Op} {x y z : D} (e : binD o x y = some z) (k : Φ (.d z) M) : G2 X (binaryOp (IR.opv o)) (.d x) (.d y) M Φ := by
  unfold binD at e
  split at e
  · rename_i i j
    cases o with
    | add => cases e; exact g2_add k
    | sub => cases e; exact g2_sub k
    | mul =>
      dsimp only at e
      split at e
      · rename_i hb
        cases e
        simp only [IR.wid, Bool.and_eq_true, decide_eq_true_eq] at hb
        exact g2_mul (wide_mul hb.1 hb.2 (by decide) (by decide) (by decide)) k
      · cases e
    | fdiv =>
      dsimp only at e
      split at e
      · rename_i hb
        cases e
        simp only [IR.big, Bool.and_eq_true, decide_eq_true_eq] at hb
        exact g2_fdiv (divB hb.1 hb.2) k
      · cases e
    | mod =>
      dsimp only at e
      split at e
      · rename_i hb
        cases e
        exact g2_mod (by simpa using hb) k
      · cases e
    | pow =>
      dsimp only at e
      split at e
      · rename_i hb
        cases e
        simp only [IR.big, Bool.and_eq_true, decide_eq_true_eq] at hb
        obtain ⟨⟨h1, h2⟩, h3⟩ := hb
        obtain ⟨n, rfl⟩ : ∃ n : Nat, j = n := ⟨j.toNat, by omega⟩
        exact g2_pow (cpow (k := 1000) h1 (by decide) (by omega)) rfl (by rw [Int.toNat_natCast] at k; exact k)
      · cases e
  · cases o with
    | add =>
      dsimp only at e
      split at e
      · rename_i hz
        cases e
        exact g2_cat (by simpa using hz) k
      · cases e
    | _ => cases e
  · cases e
theorem snap_int {r : Rv} {i : Int} (s : Snap M r (.int i)) : r = .d (.int i) := by cases s; rfl
theorem snap_str {r : Rv} {i : Str} (s : Snap M r (.str i)) : r = .d (.str i) := by cases s; rfl
theorem snap_non {K : Frg} {B : Hp} {v : V} {r : Rv} {x : D} (s : Snap M r x) (q : RvOk K B v r) : decide (v = V.non) = isN x := by
  cases s with
  | d => cases q with | d q => cases q <;> rfl
  | c => cases q; rfl
  | t => cases q; rfl
theorem isN_of {y : D} (h : isN y = true) : y = .none := by cases y <;> first | rfl | cases h
theorem cmp_ok {o : Cp} {x y : D} {b : Bool} {r q : Rv} (hu : X.A.units + 64 < cLine) (sx : Snap M r x) (sy : Snap M q y) (e : cmpD o x y = some b) (k : Φ (.d (.bool b)) M) : G2 X (compareOp (IR.cpv o)) r q M Φ := by
  have eqv : ∀ {c : Bool}, eqD x y = some c → (Φ (.d (.bool c)) M → G2 X (compareOp .Eq) r q M Φ) ∧ (Φ (.d (.bool (!c))) M → G2 X (compareOp .NotEq) r q M Φ) := fun {c} e => by
    unfold eqD at e
    split at e
    · cases e
      rw [snap_str sx, snap_str sy]
      exact ⟨fun k => g2_eqS k, fun k => g2_neS k⟩
    · split at e
      · rename_i hs
        cases e
        simp only [Bool.and_eq_true] at hs
        exact ⟨fun k => g2_mk (op_eqD hu) fun B H v w ok a b => ⟨_, _, sx.dp ok a, sy.dp ok b, hs.1, hs.2, post_same ok (.d (.bl _)) k⟩,
          fun k => g2_mk (op_neD hu) fun B H v w ok a b => ⟨_, _, sx.dp ok a, sy.dp ok b, hs.1, hs.2, post_same ok (.d (.bl _)) k⟩⟩
      · cases e
  cases o with
  | eq => exact (eqv e).1 k
  | ne =>
    simp only [cmpD] at e
    obtain ⟨c, h1, h2⟩ := Option.map_eq_some_iff.mp e
    subst h2
    exact (eqv h1).2 k
  | is =>
    simp only [cmpD] at e
    split at e
    · rename_i hy
      cases e
      cases isN_of hy
      refine g2_mk op_isN fun B H v w ok a b => ⟨?_, by rw [snap_non sx a]; exact post_same ok (.d (.bl _)) k⟩
      have := snap_non sy b
      simpa [isN] using this
    · cases e
  | isNot =>
    simp only [cmpD] at e
    split at e
    · rename_i hy
      cases e
      cases isN_of hy
      refine g2_mk op_notN fun B H v w ok a b => ⟨?_, by rw [snap_non sx a]; exact post_same ok (.d (.bl _)) k⟩
      have := snap_non sy b
      simpa [isN] using this
    · cases e
  | lt =>
    simp only [cmpD] at e
    split at e
    · cases e; rw [snap_int sx, snap_int sy]; exact g2_lt k
    · cases e
  | le =>
    simp only [cmpD] at e
    split at e
    · cases e; rw [snap_int sx, snap_int sy]; exact g2_le k
    · cases e
  | gt =>
    simp only [cmpD] at e
    split at e
    · cases e; rw [snap_int sx, snap_int sy]; exact g2_gt k
    · cases e
  | ge =>
    simp only [cmpD] at e
    split at e
    · cases e; rw [snap_int sx, snap_int sy]; exact g2_ge k
    · cases e
theorem at_rL {xs : List D} {i : Int} {z : D} (h : atI xs i = some z) : atI (rL xs) i = some (.d z) := by
  unfold atI at h ⊢
  obtain ⟨j, h1, h2⟩ := Option.bind_eq_some_iff.mp h
  rw [List.length_map, h1]
  show (rL xs)[j]? = _
  rw [List.getElem?_map, h2]; rfl
theorem ix_ok {x : VV} {d y z : D} {r : Rv} (w : VOk pins ρE ρ M F) (rx : VRel ρ x r) (e : val ρE x = some d) (h : ixD d y = some z) (k : Φ (.d z) M) : GIx X r (.d y) M Φ := by
  unfold ixD at h
  split at h
  · split at h
    · cases x with
      | d x => cases (show r = .d x from rx); cases (show some x = some _ from e); exact ix_l h k
      | ref i =>
        obtain ⟨a, h1, rfl⟩ := rx
        obtain ⟨a', xs, h2, e2, hm⟩ := val_has w e
        rw [h1] at h2; cases h2
        cases e2
        exact ix_c hm (at_rL h) k
    · have s := val_snap w rx e
      cases x with
      | d x => cases (show r = .d x from rx); cases (show some x = some _ from e); exact ix_t h k
      | ref i => obtain ⟨a, h1, rfl⟩ := rx; cases s
    · split at h
      · rename_i hz
        obtain ⟨c, hc, e2⟩ := Option.map_eq_some_iff.mp h
        subst e2
        cases snap_str (val_snap w rx e)
        exact ix_s (by simpa using hz) hc k
      · cases h
    · cases h
  · cases h
end
end VM

set_option Elab.async false
set_option linter.all false
set_option maxRecDepth 100000
set_option maxHeartbeats 4000000
namespace VM
open PySem PySem.Spec PyProof.Rows L2 Dl
section
variable {X : Cx} {pins : List Addr} {ρE : Ev} {ρ : List Rv} {M F : Mem} {Φ : Pst}
/-- items, in the memory for good -/
theorem seq_rv {K : Frg} {B H : Hp} {v : V} (w : VOk pins ρE ρ M F) {x : VV} {r : Rv} {d : D} {ys : List D} (rx : VRel ρ x r) (e : val ρE x = some d) (hs : seqD d = some ys) (ok : Ok K B H M) (q : RvOk K B v r) :
    ∃ a vs, v = .ref a ∧ ((d = .list ys ∧ SqL K H a vs) ∨ (d = .tuple ys ∧ SqT K H a vs)) ∧ DpAll K B vs ys := by
  cases x with
  | d x =>
    cases (show r = .d x from rx); cases (show some x = some d from e)
    cases q with
    | d q =>
      cases d with
      | list xs => cases hs; cases q with | lst h1 h2 => exact ⟨_, _, rfl, .inl ⟨rfl, ok.ext.seq h1⟩, h2⟩
      | tuple xs => cases hs; cases q with | tup h1 h2 => exact ⟨_, _, rfl, .inr ⟨rfl, sq_mono ok.ext h1⟩, h2⟩
      | _ => cases hs
  | ref i =>
    obtain ⟨a, h1, rfl⟩ := rx
    obtain ⟨a', xs, h2, rfl, hm⟩ := val_has w e
    rw [h1] at h2; cases h2
    cases hs
    cases q
    obtain ⟨_, vs, rs', hH, ha, hP⟩ := ok.mem _ hm.mem
    have e2 : rs' = rL _ := hP
    subst e2
    exact ⟨_, vs, rfl, .inl ⟨rfl, .of hH⟩, ha.data⟩
theorem len_ok {r : Rv} {x : D} {ys : List D} (s : Snap M r x) (hs : seqD x = some ys) (k : Φ (.d (.int ys.length)) M) : GC X (.builtin "len") [r] M Φ :=
  gc_mk call_len_seq fun B H vs ok a => by
    obtain ⟨v, rfl, q⟩ := IR.RvAll.one a
    have dp := s.dp ok q
    cases x with
    | list xs => cases hs; cases dp with | lst h1 h2 => exact ⟨_, _, rfl, .inl h1, by rw [DpAll.len h2]; exact post_same ok (.d (.int _)) k⟩
    | tuple xs => cases hs; cases dp with | tup h1 h2 => exact ⟨_, _, rfl, .inr h1, by rw [DpAll.len h2]; exact post_same ok (.d (.int _)) k⟩
    | _ => cases hs
theorem ints_d : ∀ {xs : List D} {is : List Int}, asInts xs = some is → xs = is.map PyData.int
  | [], _, e => by simp [asInts] at e; subst e; rfl
  | x :: xs, is, e => by
    cases x with
    | int i =>
      simp only [asInts] at e
      obtain ⟨is', h1, h2⟩ := Option.map_eq_some_iff.mp e
      subst h2
      rw [ints_d h1]; rfl
    | _ => simp [asInts] at e
theorem bools_d : ∀ {xs : List D} {is : List Bool}, asBools xs = some is → xs = is.map PyData.bool
  | [], _, e => by simp [asBools] at e; subst e; rfl
  | x :: xs, is, e => by
    cases x with
    | bool i =>
      simp only [asBools] at e
      obtain ⟨is', h1, h2⟩ := Option.map_eq_some_iff.mp e
      subst h2
      rw [bools_d h1]; rfl
    | _ => simp [asBools] at e
theorem ints_of {x : D} {is : List Int} (e : (lstD x).bind asInts = some is) : x = .list (is.map PyData.int) := by
  obtain ⟨ys, h1, h2⟩ := Option.bind_eq_some_iff.mp e
  cases x with
  | list zs => cases h1; rw [ints_d h2]
  | _ => cases h1
theorem bools_of {x : D} {is : List Bool} (e : (lstD x).bind asBools = some is) : x = .list (is.map PyData.bool) := by
  obtain ⟨ys, h1, h2⟩ := Option.bind_eq_some_iff.mp e
  cases x with
  | list zs => cases h1; rw [bools_d h2]
  | _ => cases h1
theorem snap_ints {K : Frg} {B H : Hp} {v : V} {r : Rv} {is : List Int} (s : Snap M r (.list (is.map PyData.int))) (ok : Ok K B H M) (q : RvOk K B v r) : ∃ a, v = .ref a ∧ SqL K H a (is.map V.int) := by
  have dp := s.dp ok q
  cases dp with | lst h1 h2 => rw [dp_ints is h2] at h1; exact ⟨_, rfl, h1⟩
theorem snap_bools {K : Frg} {B H : Hp} {v : V} {r : Rv} {is : List Bool} (s : Snap M r (.list (is.map PyData.bool))) (ok : Ok K B H M) (q : RvOk K B v r) : ∃ a, v = .ref a ∧ SqL K H a (is.map V.bl) := by
  have dp := s.dp ok q
  cases dp with | lst h1 h2 => rw [dp_bools is h2] at h1; exact ⟨_, rfl, h1⟩
def Bi.val : Bi → Value
  | .len => .builtin "len" | .abs => .builtin "abs" | .max => .builtin "max" | .min => .builtin "min" | .toInt => .type "int" | .tuple => .type "tuple" | .sum => .builtin "sum" | .all => .builtin "all" | .any => .builtin "any" | .repr => .builtin "repr" | .sorted => .builtin "sorted"
/-- arguments of a builtin -/
def VRels (ρ : List Rv) : List VV → List Rv → Prop
  | [], [] => True
  | x :: xs, r :: rs => VRel ρ x r ∧ VRels ρ xs rs
  | _, _ => False
theorem vrels_one {x : VV} {xs : List VV} {rs : List Rv} (h : VRels ρ (x :: xs) rs) : ∃ r rs', rs = r :: rs' ∧ VRel ρ x r ∧ VRels ρ xs rs' := by
  cases rs with
  | nil => exact h.elim
  | cons r rs => exact ⟨r, rs, rfl, h⟩
theorem vrels_nil {rs : List Rv} (h : VRels ρ [] rs) : rs = [] := by
  cases rs with
  | nil => rfl
  | cons r rs => exact h.elim
theorem vals_cons {x : VV} {xs : List VV} {ds : List D} (e : vals ρE (x :: xs) = some ds) : ∃ d ds', ds = d :: ds' ∧ val ρE x = some d ∧ vals ρE xs = some ds' := by
  simp only [vals] at e
  split at e
  · rename_i d ds' h1 h2; cases e; exact ⟨d, ds', rfl, h1, h2⟩
  · cases e
theorem vals_nil {xs : List VV} (e : vals ρE xs = some []) : xs = [] := by
  cases xs with
  | nil => rfl
  | cons x xs => obtain ⟨_, _, h, _⟩ := vals_cons e; cases h
theorem vals_one {xs : List VV} {d : D} {rs : List Rv} (w : VOk pins ρE ρ M F) (e : vals ρE xs = some [d]) (h : VRels ρ xs rs) : ∃ x r, xs = [x] ∧ rs = [r] ∧ VRel ρ x r ∧ val ρE x = some d ∧ Snap M r d := by
  cases xs with
  | nil => cases e
  | cons x xs =>
    obtain ⟨d', ds', h1, h2, h3⟩ := vals_cons e
    cases h1
    cases vals_nil h3
    obtain ⟨r, rs', rfl, h4, h5⟩ := vrels_one h
    cases vrels_nil h5
    exact ⟨x, r, rfl, rfl, h4, h2, val_snap w h4 h2⟩
theorem vals_two {xs : List VV} {d d2 : D} {rs : List Rv} (w : VOk pins ρE ρ M F) (e : vals ρE xs = some [d, d2]) (h : VRels ρ xs rs) : ∃ r r2, rs = [r, r2] ∧ Snap M r d ∧ Snap M r2 d2 := by
  cases xs with
  | nil => cases e
  | cons x xs =>
    obtain ⟨d', ds', h1, h2, h3⟩ := vals_cons e
    cases h1
    obtain ⟨r, rs', rfl, h4, h5⟩ := vrels_one h
    obtain ⟨x2, r2, rfl, rfl, _, _, s2⟩ := vals_one w h3 h5
    exact ⟨r, r2, rfl, val_snap w h4 h2, s2⟩
theorem repr_ok {r : Rv} {d : D} {ys : List D} (hg : X.A.guards = some []) (hu : X.A.units + 64 < cLine) (s : Snap M r d) (hs : seqD d = some ys) (o : IR.reprOk d = true) (k : Φ (.d (.str d.shown)) M) : GC X (.builtin "repr") [r] M Φ := by
  simp only [IR.reprOk, Bool.and_eq_true, decide_eq_true_eq] at o
  obtain ⟨⟨⟨⟨o1, o2⟩, o3⟩, o4⟩, o5⟩ := o
  have sh : Sh d.bulk d.depth d := ⟨o1, o2, Nat.le_refl _, o4, Nat.le_refl _⟩
  refine gc_mk (call_repr hg o1 (by omega) (sh.line o5)) fun B H vs ok a => ?_
  obtain ⟨v, rfl, q⟩ := IR.RvAll.one a
  have dp := s.dp ok q
  cases d with
  | list xs => cases dp with | lst h1 h2 => exact ⟨_, rfl, .lst h1 h2, post_same ok (.d (.str _)) k⟩
  | tuple xs => cases dp with | tup h1 h2 => exact ⟨_, rfl, .tup h1 h2, post_same ok (.d (.str _)) k⟩
  | _ => cases hs
theorem bi_ok {b : Bi} {xs : List VV} {ds : List D} {z : D} {rs : List Rv} (w : VOk pins ρE ρ M F) (e : vals ρE xs = some ds) (h : VRels ρ xs rs) (p : biD b ds = some z) (hc : X.calm = true) (hg : X.A.guards = some []) (hu : X.A.units + 64 < cLine) (k : Φ (.d z) M) : GC X b.val rs M Φ := by
  unfold biD at p
  split at p
  · obtain ⟨x, r, rfl, rfl, h1, h2, s⟩ := vals_one w e h
    obtain ⟨ys, g1, g2⟩ := Option.map_eq_some_iff.mp p
    subst g2
    exact len_ok s g1 k
  · obtain ⟨x, r, rfl, rfl, h1, h2, s⟩ := vals_one w e h
    cases p; cases snap_int s; exact gc_abs k
  · obtain ⟨r, r2, rfl, s1, s2⟩ := vals_two w e h
    cases p; cases snap_int s1; cases snap_int s2; exact gc_max hc k
  · obtain ⟨r, r2, rfl, s1, s2⟩ := vals_two w e h
    cases p; cases snap_int s1; cases snap_int s2; exact gc_min hc k
  · obtain ⟨x, r, rfl, rfl, h1, h2, s⟩ := vals_one w e h
    obtain ⟨is, g1, g2⟩ := Option.bind_eq_some_iff.mp p
    split at g2
    · cases g2
    · rename_i hne
      cases g2
      cases ints_of g1
      refine gc_mk (cr_max hc) fun B H vs ok q0 => ?_
      obtain ⟨v, rfl, q⟩ := IR.RvAll.one q0
      obtain ⟨a, rfl, h3⟩ := snap_ints s ok q
      refine ⟨a, _, rfl, h3, by cases is <;> simp_all, fun z hz hy => ?_⟩
      have := (IR.maxOf_ok (by simpa using hne)).2 z hz
      have := hy _ (IR.maxOf_ok (by simpa using hne)).1
      rw [show z = IR.maxOf is by omega]
      exact post_same ok (.d (.int _)) k
  · obtain ⟨x, r, rfl, rfl, h1, h2, s⟩ := vals_one w e h
    obtain ⟨is, g1, g2⟩ := Option.bind_eq_some_iff.mp p
    split at g2
    · cases g2
    · rename_i hne
      cases g2
      cases ints_of g1
      refine gc_mk (cr_min hc) fun B H vs ok q0 => ?_
      obtain ⟨v, rfl, q⟩ := IR.RvAll.one q0
      obtain ⟨a, rfl, h3⟩ := snap_ints s ok q
      refine ⟨a, _, rfl, h3, by cases is <;> simp_all, fun z hz hy => ?_⟩
      have := (IR.minOf_ok (by simpa using hne)).2 z hz
      have := hy _ (IR.minOf_ok (by simpa using hne)).1
      rw [show z = IR.minOf is by omega]
      exact post_same ok (.d (.int _)) k
  · obtain ⟨x, r, rfl, rfl, h1, h2, s⟩ := vals_one w e h
    cases p; cases snap_int s; exact gc_int k
  · obtain ⟨x, r, rfl, rfl, h1, h2, s⟩ := vals_one w e h
    cases p; cases s; exact gc_intB k
  · obtain ⟨x, r, rfl, rfl, h1, h2, s⟩ := vals_one w e h
    obtain ⟨ys, g1, g2⟩ := Option.map_eq_some_iff.mp p
    subst g2
    refine gc_mk call_tuple_of fun B H vs ok q0 => ?_
    obtain ⟨v, rfl, q⟩ := IR.RvAll.one q0
    obtain ⟨a, ws, rfl, hh, h3⟩ := seq_rv w h1 h2 g1 ok q
    rcases hh with ⟨rfl, hh⟩ | ⟨rfl, hh⟩
    · exact ⟨a, ws, rfl, .inl ⟨hh, fun l hl => post_frz ok hl (.d (.tup (.of upd_same) (dpAll_mono (same_new (sub_none ok.ext hl)) _ h3))) k⟩⟩
    · refine ⟨a, ws, rfl, .inr ⟨hh, ?_⟩⟩
      cases x with
      | d x => cases (show some x = some _ from h2); cases (show r = .d _ from h1); exact post_same ok q k
      | ref i => obtain ⟨_, _, _, e2, _⟩ := val_has w h2; cases e2
  · obtain ⟨x, r, rfl, rfl, h1, h2, s⟩ := vals_one w e h
    obtain ⟨is, g1, g2⟩ := Option.map_eq_some_iff.mp p
    subst g2
    cases ints_of g1
    refine gc_mk (cr_sum hc) fun B H vs ok q0 => ?_
    obtain ⟨v, rfl, q⟩ := IR.RvAll.one q0
    obtain ⟨a, rfl, h3⟩ := snap_ints s ok q
    exact ⟨a, _, rfl, h3, post_same ok (.d (.int _)) k⟩
  · obtain ⟨x, r, rfl, rfl, h1, h2, s⟩ := vals_one w e h
    obtain ⟨is, g1, g2⟩ := Option.map_eq_some_iff.mp p
    subst g2
    cases bools_of g1
    refine gc_mk (cr_all hc) fun B H vs ok q0 => ?_
    obtain ⟨v, rfl, q⟩ := IR.RvAll.one q0
    obtain ⟨a, rfl, h3⟩ := snap_bools s ok q
    exact ⟨a, _, rfl, h3, post_same ok (.d (.bl _)) k⟩
  · obtain ⟨x, r, rfl, rfl, h1, h2, s⟩ := vals_one w e h
    obtain ⟨is, g1, g2⟩ := Option.map_eq_some_iff.mp p
    subst g2
    cases bools_of g1
    refine gc_mk (cr_any hc) fun B H vs ok q0 => ?_
    obtain ⟨v, rfl, q⟩ := IR.RvAll.one q0
    obtain ⟨a, rfl, h3⟩ := snap_bools s ok q
    exact ⟨a, _, rfl, h3, post_same ok (.d (.bl _)) k⟩
  · obtain ⟨x, r, rfl, rfl, h1, h2, s⟩ := vals_one w e h
    split at p
    · rename_i hb
      cases p
      cases snap_int s
      simp only [IR.big, decide_eq_true_eq] at hb
      refine gc_mk SkE.call_repr_int fun B H vs ok q0 => ?_
      obtain ⟨v, rfl, q⟩ := IR.RvAll.one q0
      exact ⟨_, by rw [int_of q], by have := PySem.Flt.log2_lt_of (by decide : 0 < 1000) hb; omega, post_same ok (.d (.str _)) k⟩
    · cases p
  · obtain ⟨x, r, rfl, rfl, h1, h2, s⟩ := vals_one w e h
    obtain ⟨ys, g1, g2⟩ := Option.bind_eq_some_iff.mp p
    split at g2
    · rename_i ho
      cases g2
      exact repr_ok hg hu s g1 ho k
    · cases g2
  · cases p
/-! isinstance -/
theorem tyN_isi {x : D} {t : Ty} (h : kindD x = true) : kitB (tyN x) t.st = some (isiD x t) := by
  cases x <;> first | (cases h; done) | (clear h; cases t <;> (simp only [tyN, IR.Ty.st, isiD]; decide +kernel))
theorem isi_ok {x : D} {t : Ty} (h : kindD x = true) (k : Φ (.d (.bool (isiD x t))) M) : GC X (.builtin "isinstance") [.d x, .raw (.ty t.st)] M Φ := gc_isi (tyN_isi h) k
theorem lof_ok {x : VV} {r : Rv} {d : D} {ys : List D} (w : VOk pins ρE ρ M F) (rx : VRel ρ x r) (e : val ρE x = some d) (hs : seqD d = some ys) (k : ∀ a, Φ (.cell a) ((a, Is (rL ys)) :: M)) : GC X (.type "list") [r] M Φ :=
  gc_mk call_list_of fun B H vs ok q0 => by
    obtain ⟨v, rfl, q⟩ := IR.RvAll.one q0
    obtain ⟨a, ws, rfl, hh, h3⟩ := seq_rv w rx e hs ok q
    exact ⟨a, ws, rfl, by rcases hh with ⟨_, h⟩ | ⟨_, h⟩; exact .inl h; exact .inr h, fun l hl => post_own (P := Is (rL ys)) ok hl (RvAll.ofData h3) rfl (k l)⟩
end
end VM

set_option Elab.async false
set_option linter.all false
set_option maxRecDepth 100000
set_option maxHeartbeats 4000000
namespace VM
open PySem PySem.Spec PyProof.Rows L2 Dl
open IR (notStar notComp notSlice notSet notTup isTup plainB opC cpC isLst plainT star_cons star_any marks_no fold_no swap_no attr_no true_plain plainIx slotR slotW isGl useB ownC cTg cTgs)
/-! ## calls -/
def outA : List Sl → List (List D) → List Sl
  | [], _ => []
  | .io n _ :: as, ys :: outs => .io n ys :: outA as outs
  | s :: as, outs => s :: outA as outs
def argOk : Sl → Bool
  | .v _ => true
  | .io _ _ => true
  | _ => false
def PostC (mg : Mg) (pins : List Addr) (as : List Sl) (rs : List Rv) (F : Mem) (r : RC) (Φ : Pst) (Ξ : EV → Mem → Prop) : Prop :=
  match r with
  | .ok (.d x) outs => ∀ M', VOk pins (outA as outs) rs M' F → Φ (.d x) M'
  | .ok (.ow xs) outs => ∀ a M', VOk pins (outA as outs) rs M' ((a, Is (rL xs)) :: F) → Φ (.cell a) M'
  | .err x outs => ∀ e M', XRel mg x e → VOk pins (outA as outs) rs M' F → Ξ e M'
  | .bad => False
def pdV (mg : Mg) (C : Str → List Sl → RC) (f : Str) (n : Nat) : Prom := fun rs M Φ Ξ => rs.length = n ∧ ∃ pins as F, VOk pins as rs M F ∧ as.all argOk = true ∧ PostC mg pins as rs F (C f as) Φ Ξ
section
variable {pins : List Addr} {ρ : List Rv}
theorem putA_un {i : Nat} : ∀ {vs : List VV} {outs : List (List D)} {ρE ρ2 : Ev}, putA vs outs ρE = some ρ2 → ρE[i]? = some .un → ρ2[i]? = some .un
  | [], [], ρE, ρ2, h, e => by simp [putA] at h; subst h; exact e
  | [], _ :: _, ρE, ρ2, h, e => by simp [putA] at h
  | .d _ :: vs, outs, ρE, ρ2, h, e => by rw [putA] at h; exact putA_un h e
  | .ref j :: vs, [], ρE, ρ2, h, e => by simp [putA] at h
  | .ref j :: vs, ys :: outs, ρE, ρ2, h, e => by
    rw [putA] at h
    obtain ⟨ρ3, h1, h2⟩ := Option.map_eq_some_iff.mp h
    subst h2
    have hl : i < ρE.length := (List.getElem?_eq_some_iff.mp e).1
    have h3 : ρ3[i]? = some .un := putA_un h1 (by rw [List.getElem?_set]; split <;> simp_all)
    rw [List.getElem?_set]
    split
    · rename_i ej; subst ej
      rw [e]
      have : j < ρ3.length := (List.getElem?_eq_some_iff.mp h3).1
      simp [recon, this]
    · exact h3
theorem perm_swap3 {α : Type} {a b c : List α} : (a ++ (b ++ c)).Perm (b ++ (a ++ c)) := by
  rw [← List.append_assoc, ← List.append_assoc]
  exact List.perm_append_comm.append_right c
theorem take_ok : ∀ {vs : List VV} {ρE : Ev} {as : List Sl} {rs : List Rv} (pre : List Addr), takeA vs ρE pre.length = some as → VRels ρ vs rs → ERel pins ρE ρ →
    as.all argOk = true ∧ ∃ pst ρH, ERel (pre ++ pst) as rs ∧ (mOf ρE ρ).Perm (mOf as rs ++ mOf ρH ρ) ∧ ∀ outs ρ2, putA vs outs ρE = some ρ2 → ERel pins ρ2 ρ ∧ (mOf ρ2 ρ).Perm (mOf (outA as outs) rs ++ mOf ρH ρ)
  | [], ρE, as, rs, pre, h, hv, er => by
    simp [takeA] at h; subst h
    cases vrels_nil hv
    refine ⟨rfl, [], ρE, .nil, .refl _, fun outs ρ2 h => ?_⟩
    cases outs with
    | nil => simp [putA] at h; subst h; exact ⟨er, .refl _⟩
    | cons a b => simp [putA] at h
  | .d x :: vs, ρE, as, rs, pre, h, hv, er => by
    rw [takeA] at h
    obtain ⟨as', h1, h2⟩ := Option.map_eq_some_iff.mp h
    subst h2
    obtain ⟨r, rs', rfl, h3, h4⟩ := vrels_one hv
    cases (show r = .d x from h3)
    obtain ⟨g0, pst, ρH, g1, g2, g3⟩ := take_ok pre h1 h4 er
    refine ⟨by rw [List.all_cons, g0]; rfl, pst, ρH, .cons (.v x) g1, g2, fun outs ρ2 h => ?_⟩
    rw [putA] at h
    obtain ⟨e1, e2⟩ := g3 outs ρ2 h
    exact ⟨e1, by cases outs <;> exact e2⟩
  | .ref i :: vs, ρE, as, rs, pre, h, hv, er => by
    obtain ⟨r, rs', rfl, h3, h4⟩ := vrels_one hv
    obtain ⟨a, ha, rfl⟩ := h3
    have key : ∀ o xs, ρE[i]? = some o → list? o = some xs → (takeA vs (ρE.set i .un) (pre.length + 1)).map (Sl.io pre.length xs :: ·) = some as → as.all argOk = true ∧ ∃ pst ρH, ERel (pre ++ pst) as (.cell a :: rs') ∧ (mOf ρE ρ).Perm (mOf as (.cell a :: rs') ++ mOf ρH ρ) ∧
        ∀ outs ρ2, putA (.ref i :: vs) outs ρE = some ρ2 → ERel pins ρ2 ρ ∧ (mOf ρ2 ρ).Perm (mOf (outA as outs) (.cell a :: rs') ++ mOf ρH ρ) := fun o xs ho hl h => by
      obtain ⟨as', h1, h2⟩ := Option.map_eq_some_iff.mp h
      subst h2
      obtain ⟨r, hr, s⟩ := er.get i ho
      rw [ha] at hr; cases hr
      obtain ⟨a', ea, hc⟩ := s.cell hl
      cases ea
      obtain ⟨N, p1, p2⟩ := mOf_at i ho ha
      have er2 : ERel pins (ρE.set i .un) ρ := by
        have := er.set (.un (.cell a)) i
        rwa [set_same ha] at this
      have h1' : takeA vs (ρE.set i .un) (pre ++ [a]).length = some as' := by rw [List.length_append]; exact h1
      obtain ⟨g0, pst, ρH, g1, g2, g3⟩ := take_ok (pre ++ [a]) h1' h4 er2
      have pN : (mOf (ρE.set i .un) ρ).Perm N := by
        have := p2 .un (.cell a)
        rw [set_same ha] at this
        exact this
      rw [List.append_assoc] at g1
      refine ⟨by rw [List.all_cons, g0]; rfl, a :: pst, ρH, .cons (.io _ xs a (by simp)) g1, ?_, fun outs ρ2 hp => ?_⟩
      · rw [hc] at p1
        exact p1.trans ((pN.symm.trans g2).append_left _)
      · cases outs with
        | nil => simp [putA] at hp
        | cons ys outs =>
          rw [putA] at hp
          obtain ⟨ρ3, k1, k2⟩ := Option.map_eq_some_iff.mp hp
          subst k2
          obtain ⟨e1, e2⟩ := g3 outs ρ3 k1
          have hil : i < ρE.length := (List.getElem?_eq_some_iff.mp ho).1
          have hu : ρ3[i]? = some .un := putA_un k1 (by rw [List.getElem?_set_self hil])
          rw [ho]
          obtain ⟨s2, a', ea, c2⟩ := s.upd hl ys
          cases ea
          obtain ⟨N3, q1, q2⟩ := mOf_at i hu ha
          refine ⟨?_, ?_⟩
          · have := e1.set s2 i
            rwa [set_same ha] at this
          · have z := q2 (recon (some o) ys) (.cell a)
            rw [c2, set_same ha] at z
            exact z.trans ((q1.symm.trans e2).append_left _)
    rw [takeA] at h
    split at h
    · rename_i xs ho; exact key _ xs ho rfl h
    · rename_i m xs ho; exact key _ xs ho rfl h
    · cases h
theorem outs_ok : ∀ {as : List Sl} {rs : List Rv} {ρE' : Ev} {ρ' : List Rv} {outs : List (List D)}, as.all argOk = true → ERel pins as rs → ERel pins ρE' ρ' → outsOf as ρE' = some outs → ERel pins (outA as outs) rs ∧ ∃ N, (mOf ρE' ρ').Perm (mOf (outA as outs) rs ++ N)
  | [], _, ρE', ρ', outs, _, .nil, er, h => ⟨.nil, mOf ρE' ρ', .refl _⟩
  | .io n xs :: as, r :: rs, o :: ρE', q :: ρ', outs, ha, .cons s t, .cons s2 er, h => by
    cases o with
    | io m ys =>
      rw [outsOf] at h
      split at h
      · rename_i hnm
        subst hnm
        obtain ⟨outs', h1, h2⟩ := Option.map_eq_some_iff.mp h
        subst h2
        rw [List.all_cons, Bool.and_eq_true] at ha
        obtain ⟨e1, N, e2⟩ := outs_ok ha.2 t er h1
        cases s with
        | io _ _ a hp => cases s2 with
          | io _ _ a2 hp2 =>
            rw [hp] at hp2; cases hp2
            exact ⟨.cons (.io n ys a hp) e1, N, e2.append_left _⟩
      · cases h
    | _ => simp [outsOf] at h
  | .io n xs :: as, r :: rs, [], [], outs, ha, .cons s t, .nil, h => by simp [outsOf] at h
  | .v d :: as, r :: rs, o :: ρE', q :: ρ', outs, ha, .cons s t, .cons s2 er, h => by
    have h : outsOf as ρE' = some outs := by cases o <;> simpa [outsOf] using h
    rw [List.all_cons, Bool.and_eq_true] at ha
    obtain ⟨e1, N, e2⟩ := outs_ok ha.2 t er h
    have eo : outA (.v d :: as) outs = .v d :: outA as outs := by cases outs <;> rfl
    rw [eo]
    refine ⟨.cons s e1, cOf o q ++ N, (e2.append_left (cOf o q)).trans ?_⟩
    have : cOf (.v d) r = [] := by cases r <;> rfl
    show (_ : Mem).Perm ((cOf (.v d) r ++ mOf (outA as outs) rs) ++ (cOf o q ++ N))
    rw [this, List.nil_append]
    exact perm_swap3
  | .v d :: as, r :: rs, [], [], outs, ha, .cons s t, .nil, h => by simp [outsOf] at h
  | .un :: as, _, _, _, _, ha, _, _, _ => by simp [argOk] at ha
  | .ow _ :: as, _, _, _, _, ha, _, _, _ => by simp [argOk] at ha
theorem vrels_len : ∀ {vs : List VV} {rs : List Rv}, VRels ρ vs rs → vs.length = rs.length
  | [], _, h => by cases vrels_nil h; rfl
  | v :: vs, _, h => by obtain ⟨r, rs', rfl, _, h2⟩ := vrels_one h; simp [vrels_len h2]
theorem take_len : ∀ {vs : List VV} {ρE : Ev} {n : Nat} {as : List Sl}, takeA vs ρE n = some as → as.length = vs.length
  | [], _, _, _, h => by simp [takeA] at h; subst h; rfl
  | .d x :: vs, ρE, n, as, h => by
    rw [takeA] at h
    obtain ⟨as', h1, h2⟩ := Option.map_eq_some_iff.mp h
    subst h2; simp [take_len h1]
  | .ref i :: vs, ρE, n, as, h => by
    rw [takeA] at h
    split at h
    · obtain ⟨as', h1, h2⟩ := Option.map_eq_some_iff.mp h
      subst h2; simp [take_len h1]
    · obtain ⟨as', h1, h2⟩ := Option.map_eq_some_iff.mp h
      subst h2; simp [take_len h1]
    · cases h
/-- what a call does for the caller -/
theorem call_ok {mg : Mg} {C : Str → List Sl → RC} {f : Str} {vs : List VV} {ρE : Ev} {M F : Mem} {rs : List Rv} {n : Nat} {Φ : Pst} {Ξ : Xi} (ha : ∀ as, as.length ≠ n → C f as = .bad) (w : VOk pins ρE ρ M F) (hv : VRels ρ vs rs)
    (p : PV mg pins ρ F (callV C f vs ρE) (fun r ρE' => match r with | .d x => ∀ M', VOk pins ρE' ρ M' F → Φ (.d x) M' | .ow xs => ∀ a M', VOk pins ρE' ρ M' ((a, Is (rL xs)) :: F) → Φ (.cell a) M') Ξ) : pdV mg C f n rs M Φ (fun x M2 => Ξ x ρ M2) := by
  obtain ⟨er, G, pm⟩ := w
  unfold callV at p
  split at p
  · exact p.elim
  · rename_i as hta
    obtain ⟨g0, pst, ρH, g1, g2, g3⟩ := take_ok (pins := pins) [] hta hv er
    rw [List.nil_append] at g1
    have hl : as.length = rs.length := by rw [take_len hta, vrels_len hv]
    have F2 : VOk pst as rs M (mOf ρH ρ ++ F) := ⟨g1, G, pm.trans (by simpa only [List.append_assoc] using g2.append_right (F ++ G))⟩
    by_cases hn : as.length = n
    · refine ⟨by rw [← hl]; exact hn, pst, as, _, F2, g0, ?_⟩
      have back : ∀ outs ρ2 F' M', putA vs outs ρE = some ρ2 → VOk pst (outA as outs) rs M' (F' ++ (mOf ρH ρ ++ F)) → VOk pins ρ2 ρ M' (F' ++ F) := fun outs ρ2 F' M' h1 h2 => by
        obtain ⟨e1, e2⟩ := g3 outs ρ2 h1
        obtain ⟨_, G2, pm2⟩ := h2
        refine ⟨e1, G2, pm2.trans ?_⟩
        have z := e2.symm.append_right (F' ++ (F ++ G2))
        simp only [List.append_assoc] at z ⊢
        exact (perm_swap3.append_left _).trans z
      unfold PostC
      split at p
      · rename_i r outs hC
        split at p
        · rename_i ρ2 hp
          rw [hC]
          cases r with
          | d x => exact fun M' h2 => p M' (back outs ρ2 [] M' hp h2)
          | ow xs => exact fun a M' h2 => p a M' (back outs ρ2 [(a, Is (rL xs))] M' hp h2)
        · exact p.elim
      · rename_i x outs hC
        split at p
        · rename_i ρ2 hp
          rw [hC]
          exact fun e M' hx h2 => p e M' hx (back outs ρ2 [] M' hp h2)
        · exact p.elim
      · exact p.elim
    · rw [ha as hn] at p; exact p.elim
end
end VM

set_option Elab.async false
set_option linter.all false
set_option maxRecDepth 100000
set_option maxHeartbeats 4000000
namespace VM
open PySem PySem.Spec PyProof.Rows L2 Dl
open IR (notStar notComp notSlice notSet notTup isTup plainB opC cpC isLst plainT star_cons star_any asg_cons marks_no fold_no swap_no attr_no true_plain plainIx slotR slotW isGl useB ownC cTg cTgs kwNames tgs_star asg_len permC idxOf)
/-! ## what stands around -/
abbrev C0 : Str → List IR.Vl → IR.Mm → IR.R IR.Vl := fun _ _ _ => .bad
structure Ctx (X : Cx) (c : Cc) (C : Str → List Sl → RC) (k : Nat) : Prop where
  b : IR.Ctx X c.b C0 k
  fns : ∀ f ps ords mus, c.fns.lookup f = some (ps, ords, mus) → Def X f k ps ords (pdV X.mg C f ps.length) ∧ ∀ as, as.length ≠ ps.length → C f as = .bad
section
variable {X : Cx} {c : Cc} {C : Str → List Sl → RC} {k : Nat}
theorem Ctx.block (x : Ctx X c C k) (scope : Scope) : AllB X scope fun X1 => Ctx X1 (blkOf c scope) C k := fun s H Cc cl fp =>
  ⟨x.b.block scope s H Cc cl fp, fun f ps ords mus e => ⟨bDef (x.fns f ps ords mus e).1, (x.fns f ps ords mus e).2⟩⟩
/-! ## what is shown of each expression -/
def SoE (X : Cx) (C : Str → List Sl → RC) (e : Expr) (v : E) : Prop :=
  ∀ pins ρE ρ M F (Φ : Pst) (Ξ : Xi), VOk pins ρE ρ M F → PV X.mg pins ρ F (ev C v ρE) (QV pins ρ F Φ) Ξ → GE X e ρ M Φ Ξ
def SoO (X : Cx) (C : Str → List Sl → RC) (e : Expr) (v : E) : Prop :=
  ∀ pins ρE ρ M F (Φ : Pst) (Ξ : Xi), VOk pins ρE ρ M F → PV X.mg pins ρ F (eo C v ρE) (QO pins ρ F Φ) Ξ → GE X e ρ M Φ Ξ
def SoT (X : Cx) (C : Str → List Sl → RC) (e : Expr) (v : E) : Prop :=
  ∀ pins ρE ρ M F (Ψ : Bool → Mem → Prop) (Ξ : Xi), VOk pins ρE ρ M F → PV X.mg pins ρ F (tv C v ρE) (QT pins ρ F Ψ) Ξ → GT X e ρ M Ψ Ξ
def SoW (X : Cx) (C : Str → List Sl → RC) (e : Expr) (v : E) : Prop :=
  ∀ pins ρE ρ M F (Ψ : Bool → Mem → Prop) (Ξ : Xi), VOk pins ρE ρ M F → PV X.mg pins ρ F (tv C v ρE) (QT pins ρ F Ψ) Ξ → GW X e ρ M Ψ Ξ
/-- what is known of an item is a value -/
def DUp (r : Rv) (d : D) : Prop := ∀ (K : Frg) (B : Hp) (v : V), RvOk K B v r → RvOk K B v (.d d)
def DUps : List Rv → List D → Prop
  | [], [] => True
  | r :: rs, d :: ds => DUp r d ∧ DUps rs ds
  | _, _ => False
theorem dup_d (d : D) : DUp (.d d) d := fun _ _ _ q => q
theorem dups_rL : ∀ ds : List D, DUps (rL ds) ds
  | [] => trivial
  | d :: ds => ⟨dup_d d, dups_rL ds⟩
def QI (pins : List Addr) (ρ : List Rv) (F : Mem) (Θ : List Rv → (Mem → Prop) → Mem → Prop) : List D → Ev → Prop := fun ds ρE' =>
  ∀ rs S M', DUps rs ds → (∀ M2, S M2) → VOk pins ρE' ρ M' F → Θ rs S M'
def SoI (X : Cx) (C : Str → List Sl → RC) (tg e : Expr) (v : E) : Prop :=
  ∀ pins ρE ρ M F (Θ : List Rv → (Mem → Prop) → Mem → Prop) (Ξ : Xi), VOk pins ρE ρ M F → PV X.mg pins ρ F (ei C v ρE) (QI pins ρ F Θ) Ξ → IR.GIW X tg e ρ M Θ Ξ
theorem so_stop {e : Expr} : SoE X C e .stop := fun _ _ _ _ _ _ _ _ p => False.elim p
theorem so_stopO {e : Expr} : SoO X C e .stop := fun _ _ _ _ _ _ _ _ p => False.elim p
theorem so_stopT {e : Expr} : SoT X C e .stop := fun _ _ _ _ _ _ _ _ p => False.elim p
theorem so_stopI {tg e : Expr} : SoI X C tg e .stop := fun _ _ _ _ _ _ _ _ p => False.elim p
/-- a value that is no own list -/
theorem so_d {e : Expr} {v : E} (h : SoE X C e v) {pins : List Addr} {ρE : Ev} {ρ : List Rv} {M F : Mem} {Φ : Pst} {Ξ : Xi} (w : VOk pins ρE ρ M F) (p : PV X.mg pins ρ F ((ev C v ρE).bind dR) (QD pins ρ F Φ) Ξ) : GE X e ρ M Φ Ξ := by
  refine h pins ρE ρ M F Φ Ξ w ((pv_bind p).imp fun a ρ1 q r M1 hr w1 => ?_)
  cases a with
  | d x => cases (show r = .d x from hr); exact q M1 w1
  | ref i => exact q.elim
section
variable {pins : List Addr} {ρE : Ev} {ρ : List Rv} {M F : Mem} {Φ : Pst} {Ξ : Xi}
theorem qv_d {x : D} {ρE' : Ev} (h : QV pins ρ F Φ (.d x) ρE') {M' : Mem} (w : VOk pins ρE' ρ M' F) : Φ (.d x) M' := h _ M' rfl w
end
theorem so_int {i : Int} {j : Nat} {pos : Pos} : SoE X C (.Constant (.int i) j pos) (.int i) := fun pins ρE ρ M F Φ Ξ w p => by rw [ev] at p; exact ge_int (qv_d p w)
theorem so_bl {i : Bool} {j : Nat} {pos : Pos} : SoE X C (.Constant (.bool i) j pos) (.bl i) := fun pins ρE ρ M F Φ Ξ w p => by rw [ev] at p; exact ge_bl (qv_d p w)
theorem so_non {j : Nat} {pos : Pos} : SoE X C (.Constant .none j pos) .non := fun pins ρE ρ M F Φ Ξ w p => by rw [ev] at p; exact ge_non (qv_d p w)
theorem so_str {i : Str} {j : Nat} {pos : Pos} : SoE X C (.Constant (.str i) j pos) (.str i) := fun pins ρE ρ M F Φ Ξ w p => by rw [ev] at p; exact ge_str (qv_d p w)
theorem so_name (x : Ctx X c C k) {n : Str} {pos : Pos} : SoE X C (.Name n pos) (nameC c n) := by
  unfold nameC
  split
  · rename_i i hi
    intro pins ρE ρ M F Φ Ξ w p
    obtain ⟨h1, h2, h3, h4⟩ := IR.slotR_of x.b hi
    rw [ev] at p
    split at p
    · rename_i d hd
      exact ge_nameC h1 h2 (w.get hd) rfl (qv_d p w) h3 h4
    · rename_i xs hd
      obtain ⟨a, ha, _⟩ := w.own hd rfl
      exact ge_nameC h1 h2 ha rfl (p _ M ⟨a, ha, rfl⟩ w) h3 h4
    · rename_i n xs hd
      obtain ⟨a, ha, _⟩ := w.own hd rfl
      exact ge_nameC h1 h2 ha rfl (p _ M ⟨a, ha, rfl⟩ w) h3 h4
    · exact p.elim
  · split
    · rename_i hg
      split
      · rename_i v hv
        intro pins ρE ρ M F Φ Ξ w p
        rw [ev] at p
        exact ge_gint (x.b.cons _ _ hv) (IR.gl_of x.b hg).1 (qv_d p w)
      · exact so_stop
    · exact so_stop
theorem so_bin (x : Ctx X c C k) {a b : Expr} {o : Op} {pos : Pos} {va vb : E} (ha : SoE X C a va) (hb : SoE X C b vb) : SoE X C (.BinOp a (IR.opv o) b pos) (.bin o va vb) := fun pins ρE ρ M F Φ Ξ w p => by
  rw [ev] at p
  refine ge_bin (so_d ha w ((pv_bind p).imp fun u ρ1 q M1 w1 => ?_))
  refine so_d hb w1 ((pv_bind q).imp fun y ρ2 q2 M2 w2 => ?_)
  obtain ⟨z, hz, q3⟩ := pv_optb q2
  exact bin_ok hz (qv_d q3 w2)
theorem so_cmp (x : Ctx X c C k) {a b : Expr} {o : Cp} {pos : Pos} {va vb : E} (hs : notSet b = true) (ha : SoE X C a va) (hb : SoE X C b vb) : SoE X C (.Compare a [IR.cpv o] [b] pos) (.cmp o va vb) := fun pins ρE ρ M F Φ Ξ w p => by
  rw [ev] at p
  refine ge_cmp (marks_no hs) (ha pins ρE ρ M F _ Ξ w ((pv_bind p).imp fun u ρ1 q r1 M1 h1 w1 => ?_))
  refine hb pins ρ1 ρ M1 F _ Ξ w1 ((pv_bind q).imp fun y ρ2 q2 r2 M2 h2 w2 => ?_)
  obtain ⟨d1, e1, q3⟩ := pv_optb q2
  obtain ⟨d2, e2, q4⟩ := pv_optb q3
  obtain ⟨t, e3, q5⟩ := pv_optb q4
  exact cmp_ok x.b.un (val_snap w2 h1 e1) (val_snap w2 h2 e2) e3 (qv_d q5 w2)
theorem so_cmpT (x : Ctx X c C k) {a b : Expr} {o : Cp} {pos : Pos} {va vb : E} (hs : notSet b = true) (ha : SoE X C a va) (hb : SoE X C b vb) : SoT X C (.Compare a [IR.cpv o] [b] pos) (.tru (.cmp o va vb)) := fun pins ρE ρ M F Ψ Ξ w p => by
  rw [tv, ev] at p
  have p := pv_bind p
  refine gt_cmp (marks_no hs) (ha pins ρE ρ M F _ Ξ w ((pv_bind p).imp fun u ρ1 q r1 M1 h1 w1 => ?_))
  refine hb pins ρ1 ρ M1 F _ Ξ w1 ((pv_bind q).imp fun y ρ2 q2 r2 M2 h2 w2 => ?_)
  obtain ⟨d1, e1, q3⟩ := pv_optb q2
  obtain ⟨d2, e2, q4⟩ := pv_optb q3
  obtain ⟨t, e3, q5⟩ := pv_optb q4
  have q6 : QT pins ρ F Ψ t ρ2 := q5
  exact cmp_ok (Φ := fun r M3 => ∃ c, r = .d (.bool c) ∧ Ψ c M3) x.b.un (val_snap w2 h1 e1) (val_snap w2 h2 e2) e3 ⟨t, rfl, q6 M2 w2⟩
theorem so_chain (x : Ctx X c C k) {a b d : Expr} {o o' : Cp} {pos : Pos} {va vb vd : E} (hs : notSet d = true) (ha : SoE X C a va) (hb : SoE X C b vb) (hd : SoE X C d vd) : SoE X C (.Compare a [IR.cpv o, IR.cpv o'] [b, d] pos) (.chain o o' va vb vd) := fun pins ρE ρ M F Φ Ξ w p => by
  rw [ev] at p
  refine ge_chain (marks_no hs) (so_d ha w ((pv_bind p).imp fun u ρ1 q M1 w1 => ?_))
  refine so_d hb w1 ((pv_bind q).imp fun y ρ2 q2 M2 w2 => ?_)
  obtain ⟨t, e3, q3⟩ := pv_optb q2
  refine cmp_ok x.b.un (.d (x := u)) (.d (x := y)) e3 ⟨t, rfl, fun ht => ?_, fun ht => ?_⟩
  · subst ht
    refine so_d hd w2 ((pv_bind q3).imp fun z ρ4 q4 M4 w4 => ?_)
    obtain ⟨t2, e5, q5⟩ := pv_optb q4
    exact cmp_ok x.b.un (.d (x := y)) (.d (x := z)) e5 (qv_d q5 w4)
  · subst ht
    exact qv_d q3 w2
theorem so_chainT (x : Ctx X c C k) {a b d : Expr} {o o' : Cp} {pos : Pos} {va vb vd : E} (hs : notSet d = true) (ha : SoE X C a va) (hb : SoE X C b vb) (hd : SoE X C d vd) : SoT X C (.Compare a [IR.cpv o, IR.cpv o'] [b, d] pos) (.tru (.chain o o' va vb vd)) := fun pins ρE ρ M F Ψ Ξ w p => by
  rw [tv, ev] at p
  have p := pv_bind p
  refine gt_chain (marks_no hs) (so_d ha w ((pv_bind p).imp fun u ρ1 q M1 w1 => ?_))
  refine so_d hb w1 ((pv_bind q).imp fun y ρ2 q2 M2 w2 => ?_)
  obtain ⟨t, e3, q3⟩ := pv_optb q2
  refine cmp_ok (Φ := fun r M3 => ∃ kk, r = .d (.bool kk) ∧ _) x.b.un (.d (x := u)) (.d (x := y)) e3 ⟨t, rfl, fun ht => ?_, fun ht => ?_⟩
  · subst ht
    refine so_d hd w2 ((pv_bind q3).imp fun z ρ4 q4 M4 w4 => ?_)
    obtain ⟨t2, e5, q5⟩ := pv_optb q4
    have q6 : QT pins ρ F Ψ t2 ρ4 := q5
    exact cmp_ok (Φ := fun r M3 => ∃ c, r = .d (.bool c) ∧ Ψ c M3) x.b.un (.d (x := y)) (.d (x := z)) e5 ⟨t2, rfl, q6 M4 w4⟩
  · subst ht
    have q6 : QT pins ρ F Ψ false ρ2 := q3
    exact q6 M2 w2
theorem so_notT {a : Expr} {pos : Pos} {va : E} (ha : SoT X C a va) : SoT X C (.UnaryOp .Not a pos) (.not va) := fun pins ρE ρ M F Ψ Ξ w p => by
  rw [tv] at p
  exact gt_not (ha pins ρE ρ M F _ Ξ w ((pv_bind p).imp fun b ρ1 q M1 w1 => q M1 w1))
theorem so_not {a : Expr} {pos : Pos} {va : E} (ha : SoE X C a va) : SoE X C (.UnaryOp .Not a pos) (.not va) := fun pins ρE ρ M F Φ Ξ w p => by
  rw [ev] at p
  refine ge_not (so_d ha w ((pv_bind p).imp fun u ρ1 q M1 w1 => ?_))
  cases u with
  | bool b => exact ⟨b, rfl, qv_d q w1⟩
  | _ => exact q.elim
theorem so_neg {a : Expr} {pos : Pos} {va : E} (ha : SoE X C a va) : SoE X C (.UnaryOp .USub a pos) (.neg va) := fun pins ρE ρ M F Φ Ξ w p => by
  rw [ev] at p
  refine ge_neg (so_d ha w ((pv_bind p).imp fun u ρ1 q M1 w1 => ?_))
  cases u with
  | int b => exact ⟨b, rfl, qv_d q w1⟩
  | _ => exact q.elim
theorem so_ite {t a b : Expr} {pos : Pos} {vt va vb : E} (ht : SoT X C t vt) (ha : SoE X C a va) (hb : SoE X C b vb) : SoE X C (.IfExp t a b pos) (.ite vt va vb) := fun pins ρE ρ M F Φ Ξ w p => by
  rw [ev] at p
  refine ge_if (ht pins ρE ρ M F _ Ξ w ((pv_bind p).imp fun u ρ1 q M1 w1 => ⟨fun e => ?_, fun e => ?_⟩))
  · subst e; exact ha pins ρ1 ρ M1 F Φ Ξ w1 q
  · subst e; exact hb pins ρ1 ρ M1 F Φ Ξ w1 q
theorem so_and (x : Ctx X c C k) {pos : Pos} : ∀ (es : List Expr), (∀ e ∈ es, SoE X C e (cE c e).v) → SoE X C (.BoolOp .And es pos) (cAnd c es)
  | [], _ => by rw [cAnd]; exact so_stop
  | [a], h => by rw [cAnd]; exact fun pins ρE ρ M F Φ Ξ w p => ge_one (h a (by simp) pins ρE ρ M F Φ Ξ w p)
  | a :: b :: es, h => by
    rw [cAnd]
    intro pins ρE ρ M F Φ Ξ w p
    rw [ev] at p
    refine ge_and (so_d (h a (by simp)) w ((pv_bind p).imp fun u ρ1 q M1 w1 => ?_))
    cases u with
    | bool b =>
      refine ⟨b, rfl, fun e => ?_, fun e => ?_⟩
      · subst e; exact so_and x (b :: es) (fun e he => h e (List.mem_cons_of_mem _ he)) pins ρ1 ρ M1 F Φ Ξ w1 q
      · subst e; exact qv_d q w1
    | _ => exact q.elim
theorem so_or (x : Ctx X c C k) {pos : Pos} : ∀ (es : List Expr), (∀ e ∈ es, SoE X C e (cE c e).v) → SoE X C (.BoolOp .Or es pos) (cOr c es)
  | [], _ => by rw [cOr]; exact so_stop
  | [a], h => by rw [cOr]; exact fun pins ρE ρ M F Φ Ξ w p => ge_one (h a (by simp) pins ρE ρ M F Φ Ξ w p)
  | a :: b :: es, h => by
    rw [cOr]
    intro pins ρE ρ M F Φ Ξ w p
    rw [ev] at p
    refine ge_or (so_d (h a (by simp)) w ((pv_bind p).imp fun u ρ1 q M1 w1 => ?_))
    cases u with
    | bool b =>
      refine ⟨b, rfl, fun e => ?_, fun e => ?_⟩
      · subst e; exact so_or x (b :: es) (fun e he => h e (List.mem_cons_of_mem _ he)) pins ρ1 ρ M1 F Φ Ξ w1 q
      · subst e; exact qv_d q w1
    | _ => exact q.elim
theorem so_andW (x : Ctx X c C k) {pos : Pos} : ∀ (es : List Expr), (∀ e ∈ es, SoT X C e (cE c e).t) → SoW X C (.BoolOp .And es pos) (cAndT c es)
  | [], _ => by rw [cAndT]; exact fun _ _ _ _ _ _ _ _ p => False.elim p
  | [a], h => by rw [cAndT]; exact fun pins ρE ρ M F Ψ Ξ w p => gw_and1 (h a (by simp) pins ρE ρ M F Ψ Ξ w p)
  | a :: b :: es, h => by
    rw [cAndT]
    intro pins ρE ρ M F Ψ Ξ w p
    rw [tv] at p
    refine gw_and (h a (by simp) pins ρE ρ M F _ Ξ w ((pv_bind p).imp fun u ρ1 q M1 w1 => ⟨fun e => ?_, fun e => ?_⟩))
    · subst e; exact so_andW x (b :: es) (fun e he => h e (List.mem_cons_of_mem _ he)) pins ρ1 ρ M1 F Ψ Ξ w1 q
    · subst e; exact q M1 w1
theorem so_orW (x : Ctx X c C k) {pos : Pos} : ∀ (es : List Expr), (∀ e ∈ es, SoT X C e (cE c e).t) → SoW X C (.BoolOp .Or es pos) (cOrT c es)
  | [], _ => by rw [cOrT]; exact fun _ _ _ _ _ _ _ _ p => False.elim p
  | [a], h => by rw [cOrT]; exact fun pins ρE ρ M F Ψ Ξ w p => gw_or1 (h a (by simp) pins ρE ρ M F Ψ Ξ w p)
  | a :: b :: es, h => by
    rw [cOrT]
    intro pins ρE ρ M F Ψ Ξ w p
    rw [tv] at p
    refine gw_or (h a (by simp) pins ρE ρ M F _ Ξ w ((pv_bind p).imp fun u ρ1 q M1 w1 => ⟨fun e => ?_, fun e => ?_⟩))
    · subst e; exact so_orW x (b :: es) (fun e he => h e (List.mem_cons_of_mem _ he)) pins ρ1 ρ M1 F Ψ Ξ w1 q
    · subst e; exact q M1 w1
end
end VM

set_option Elab.async false
set_option linter.all false
set_option maxRecDepth 100000
set_option maxHeartbeats 4000000
namespace VM
open PySem PySem.Spec PyProof.Rows L2 Dl
open IR (notStar notComp notSlice notSet notTup isTup plainB opC cpC isLst plainT star_cons star_any asg_cons marks_no fold_no swap_no attr_no true_plain plainIx slotR slotW isGl useB ownC cTg cTgs kwNames tgs_star asg_len permC idxOf Lst)
section
variable {X : Cx} {c : Cc} {C : Str → List Sl → RC} {k : Nat}
/-! ## arguments -/
theorem so_args (x : Ctx X c C k) : ∀ (es : List Expr), es.all notStar = true → (∀ e ∈ es, SoE X C e (cE c e).v) → ∀ pins ρE ρ M F (Ψ : List Rv → Mem → Prop) (Ξ : Xi), VOk pins ρE ρ M F → PV X.mg pins ρ F (evs C (cEs c es) ρE) (fun vs ρE' => ∀ rs M', VRels ρ vs rs → VOk pins ρE' ρ M' F → Ψ rs M') Ξ → GA X es ρ M Ψ Ξ
  | [], _, _, pins, ρE, ρ, M, F, Ψ, Ξ, w, p => by rw [cEs, evs] at p; exact ga_nil (p [] M trivial w)
  | e :: es, hn, hs, pins, ρE, ρ, M, F, Ψ, Ξ, w, p => by
    rw [List.all_cons, Bool.and_eq_true] at hn
    rw [cEs, evs] at p
    refine ga_cons (star_cons hn.1) (hs e (by simp) pins ρE ρ M F _ Ξ w ((pv_bind p).imp fun v ρ1 q r M1 h1 w1 => ?_))
    refine so_args x es hn.2 (fun e he => hs e (List.mem_cons_of_mem _ he)) pins ρ1 ρ M1 F _ Ξ w1 ((pv_bind q).imp fun vs ρ2 q2 rs M2 h2 w2 => ?_)
    exact q2 (r :: rs) M2 ⟨h1, h2⟩ w2
theorem so_argsD (x : Ctx X c C k) : ∀ (es : List Expr), es.all notStar = true → (∀ e ∈ es, SoE X C e (cE c e).v) → ∀ pins ρE ρ M F (Ψ : List Rv → Mem → Prop) (Ξ : Xi), VOk pins ρE ρ M F → PV X.mg pins ρ F (eds C (cEs c es) ρE) (QL pins ρ F Ψ) Ξ → GA X es ρ M Ψ Ξ
  | [], _, _, pins, ρE, ρ, M, F, Ψ, Ξ, w, p => by rw [cEs, eds] at p; exact ga_nil (p M w)
  | e :: es, hn, hs, pins, ρE, ρ, M, F, Ψ, Ξ, w, p => by
    rw [List.all_cons, Bool.and_eq_true] at hn
    rw [cEs, eds] at p
    refine ga_cons (star_cons hn.1) (so_d (hs e (by simp)) w ((pv_bind p).imp fun v ρ1 q M1 w1 => ?_))
    refine so_argsD x es hn.2 (fun e he => hs e (List.mem_cons_of_mem _ he)) pins ρ1 ρ M1 F _ Ξ w1 ((pv_bind q).imp fun vs ρ2 q2 M2 w2 => ?_)
    exact q2 M2 w2
theorem so_kws (x : Ctx X c C k) : ∀ (ks : List Keyword), (∀ a ∈ ks, SoE X C a.value (cE c a.value).v) → ∀ pins ρE ρ M F (Ψ : List Rv → Mem → Prop) (Ξ : Xi), VOk pins ρE ρ M F → PV X.mg pins ρ F (evs C (cKs c ks) ρE) (fun vs ρE' => ∀ rs M', VRels ρ vs rs → VOk pins ρE' ρ M' F → Ψ rs M') Ξ → GK X ks ρ M Ψ Ξ
  | [], _, pins, ρE, ρ, M, F, Ψ, Ξ, w, p => by rw [cKs, evs] at p; exact gk_nil (p [] M trivial w)
  | ⟨nm, e, kp⟩ :: ks, hs, pins, ρE, ρ, M, F, Ψ, Ξ, w, p => by
    rw [cKs, evs] at p
    refine gk_cons (hs _ (List.mem_cons_self ..) pins ρE ρ M F _ Ξ w ((pv_bind p).imp fun v ρ1 q r M1 h1 w1 => ?_))
    refine so_kws x ks (fun e he => hs e (List.mem_cons_of_mem _ he)) pins ρ1 ρ M1 F _ Ξ w1 ((pv_bind q).imp fun vs ρ2 q2 rs M2 h2 w2 => ?_)
    exact q2 (r :: rs) M2 ⟨h1, h2⟩ w2
/-! ## tuples, lists -/
theorem so_tup (x : Ctx X c C k) {es : List Expr} {kk : Nat} {pos : Pos} (hn : es.all notStar = true) (hs : ∀ e ∈ es, SoE X C e (cE c e).v) : SoE X C (.Tuple es kk pos) (.tup (cEs c es)) := fun pins ρE ρ M F Φ Ξ w p => by
  rw [ev] at p
  refine ge_tup (so_argsD x es hn hs pins ρE ρ M F _ Ξ w ((pv_bind p).imp fun ds ρ1 q M1 w1 => ?_))
  split at q
  · rename_i hz
    exact ⟨ds, rfl, by simpa using hz, qv_d q w1⟩
  · exact q.elim
theorem so_lst (x : Ctx X c C k) {es : List Expr} {pos : Pos} (hn : es.all notStar = true) (hs : ∀ e ∈ es, SoE X C e (cE c e).v) : SoO X C (.List es pos) (.lst (cEs c es)) := fun pins ρE ρ M F Φ Ξ w p => by
  rw [eo] at p
  refine ge_own (so_argsD x es hn hs pins ρE ρ M F _ Ξ w ((pv_bind p).imp fun ds ρ1 q M1 w1 => ?_))
  split at q
  · rename_i hz
    exact ⟨by rw [List.length_map]; simpa using hz, fun a => q a _ w1.new⟩
  · exact q.elim
/-- a new list becomes a value -/
theorem so_fr {e : Expr} {o : E} (h : SoO X C e o) : SoE X C e (.fr o) := fun pins ρE ρ M F Φ Ξ w p => by
  rw [ev] at p
  refine ge_freeze (h pins ρE ρ M F _ Ξ w ((pv_bind p).imp fun xs ρ1 q a M1 w1 => ?_))
  obtain ⟨Ma, Mb, e1, w2⟩ := w1.out
  exact ⟨a, xs, Ma, Mb, rfl, e1, qv_d q w2⟩
theorem ge_frz2 {e : Expr} {ρ : List Rv} {M : Mem} {Φ : Pst} {Ξ : Xi} (h : GE X e ρ M (fun r M1 => Φ r M1 ∨ ∃ a ds Ma Mb, r = .cell a ∧ M1 = Ma ++ (a, Is (rL ds)) :: Mb ∧ Φ (.d (.list ds)) (Ma ++ Mb)) Ξ) : GE X e ρ M Φ Ξ := fun B H σ ok env tk =>
  one h ok env tk fun v H1 B1 M1 r o1 f1 q1 z => by
    rcases z with k | ⟨a, ds, Ma, Mb, e1, e2, k⟩
    · exact ⟨B1, M1, r, o1, f1, q1, k⟩
    · subst e1 e2
      cases q1
      obtain ⟨xs, rs, hx, hP, o2, f2⟩ := ok_freeze o1
      have e : rs = rL ds := hP
      subst e
      exact ⟨_, _, _, o2, f1.trans f2, .d (.lst (.of upd_same) (dpAll_mono f2.ex _ hx.data)), k⟩
theorem rL_rep {xs : List D} : ∀ n : Nat, (List.replicate n (rL xs)).flatten = rL (repL xs n)
  | 0 => rfl
  | n + 1 => by
    unfold repL
    rw [List.replicate_succ, List.replicate_succ, List.flatten_cons, List.flatten_cons, rL_rep n]
    show rL xs ++ rL (repL xs n) = rL (xs ++ (List.replicate n xs).flatten)
    unfold rL
    rw [List.map_append]; rfl
theorem so_rep (x : Ctx X c C k) {es : List Expr} {n : Expr} {vn : E} {p1 pos : Pos} (hn : es.all notStar = true) (hs : ∀ e ∈ es, SoE X C e (cE c e).v) (hk : SoE X C n vn) : SoO X C (.BinOp (.List es p1) .Mult n pos) (.rep (cEs c es) vn) := fun pins ρE ρ M F Φ Ξ w p => by
  rw [eo] at p
  refine ge_bin (ge_own (so_argsD x es hn hs pins ρE ρ M F _ Ξ w ((pv_bind p).imp fun ds ρ1 q M1 w1 => ?_)))
  split at q
  · rename_i hz
    refine ⟨by rw [List.length_map]; simpa using hz, fun a => so_d hk (w1.new (a := a) (P := Is (rL ds))) ?_⟩
    cases hv : (ev C vn ρ1).bind dR with
    | bad => rw [hv] at q; exact q.elim
    | err z ρ2 => rw [hv] at q; exact fun e M' hx w2 => q e M' hx w2.drop1
    | ok y ρ2 =>
      rw [hv] at q
      have q : PV X.mg pins ρ F _ _ Ξ := q
      intro M2 w2
      cases y with
      | int i =>
        simp only [R.bind] at q
        split at q
        · rename_i h2
          simp only [IR.small, Bool.and_eq_true, decide_eq_true_eq] at h2
          refine g2_mk op_rep fun B H v w' ok qa qb => ?_
          obtain ⟨Ma, Mb, e1, _⟩ := w2.out
          have hm : (a, Is (rL ds)) ∈ M2 := by rw [e1]; simp
          cases qa
          obtain ⟨_, vs, rs', hH, ha, hP⟩ := ok.mem _ hm
          have e2 : rs' = rL ds := hP
          subst e2
          refine ⟨_, i, vs, rfl, int_of qb, hH, by omega, by omega, by rw [ha.length, List.length_map]; exact h2.2, fun l hl => post_own (P := Is (rL (repL ds i.toNat))) ok hl (rs := rL (repL ds i.toNat)) (by rw [← rL_rep]; exact IR.rvAll_rep ha _) rfl (q l _ ?_)⟩
          exact ((w2.new (a := l)).frame (List.Perm.swap _ _ _)).drop1
        · exact q.elim
      | _ => exact q.elim
  · exact q.elim
theorem rL_cut {xs : List D} {l u : Option Int} : Dl.cutD (rL xs) l u = rL (Dl.cutD xs l u) := by
  unfold Dl.cutD rL
  rw [List.length_map, List.map_take, List.map_drop]
theorem val_lst {pins : List Addr} {ρE : Ev} {ρ : List Rv} {M F : Mem} (w : VOk pins ρE ρ M F) {x : VV} {r : Rv} {d : D} {xs : List D} (rx : VRel ρ x r) (e : val ρE x = some d) (h : lstD d = some xs) : Lst r (rL xs) M := by
  cases x with
  | d x =>
    cases (show r = .d x from rx); cases (show some x = some d from e)
    cases d with
    | list ys => cases h; exact .inr ⟨_, rfl, fun K B vs q => RvAll.ofData q⟩
    | _ => cases h
  | ref i =>
    obtain ⟨a, h1, rfl⟩ := rx
    obtain ⟨a', ys, h2, rfl, hm⟩ := val_has w e
    rw [h1] at h2; cases h2
    cases h
    exact .inl ⟨a, rfl, hm⟩
theorem so_opt (x : Ctx X c C k) {o : Option Expr} (hs : ∀ e, o = some e → SoE X C e (cE c e).v) : ∀ pins ρE ρ M F (Ψ : Option Int → Mem → Prop) (Ξ : Xi), VOk pins ρE ρ M F → PV X.mg pins ρ F (ep C (cO c o) ρE) (fun l ρE' => ∀ M', VOk pins ρE' ρ M' F → Ψ l M') Ξ → GO X o ρ M Ψ Ξ := by
  intro pins ρE ρ M F Ψ Ξ w p
  cases o with
  | none => rw [cO, ep] at p; exact go_none (p M w)
  | some e =>
    rw [cO, ep] at p
    refine go_some (so_d (hs e rfl) w ((pv_bind p).imp fun u ρ1 q M1 w1 => ?_))
    cases u with
    | int i => exact ⟨i, rfl, q M1 w1⟩
    | _ => exact q.elim
theorem so_slice (x : Ctx X c C k) {a : Expr} {lo hi : Option Expr} {pos p2 : Pos} (ha : SoE X C a (cE c a).v) (h1 : ∀ e, lo = some e → SoE X C e (cE c e).v) (h2 : ∀ e, hi = some e → SoE X C e (cE c e).v) : SoO X C (.Subscript a (.Slice lo hi none p2) pos) (.slice (cE c a).v (cO c lo) (cO c hi)) := fun pins ρE ρ M F Φ Ξ w p => by
  rw [eo] at p
  refine IR.ge_sliceW (ha pins ρE ρ M F _ Ξ w ((pv_bind p).imp fun u ρ1 q r M1 hr w1 => ?_))
  refine so_opt x h1 pins ρ1 ρ M1 F _ Ξ w1 ((pv_bind q).imp fun l ρ2 q2 M2 w2 => ?_)
  refine so_opt x h2 pins ρ2 ρ M2 F _ Ξ w2 ((pv_bind q2).imp fun t ρ3 q3 M3 w3 => ?_)
  obtain ⟨d, e1, q4⟩ := pv_optb q3
  obtain ⟨xs, e2, q5⟩ := pv_optb q4
  exact ⟨rL xs, val_lst w3 hr e1 e2, fun a => by rw [rL_cut]; exact q5 a _ w3.new⟩
theorem so_ix {a b : Expr} {pos : Pos} {va vb : E} (hb1 : notSlice b = true) (ha : SoE X C a va) (hb : SoE X C b vb) : SoE X C (.Subscript a b pos) (.ix va vb) := fun pins ρE ρ M F Φ Ξ w p => by
  rw [ev] at p
  refine ge_ix (plainIx hb1) (ha pins ρE ρ M F _ Ξ w ((pv_bind p).imp fun u ρ1 q r M1 hr w1 => ?_))
  refine so_d hb w1 ((pv_bind q).imp fun y ρ2 q2 M2 w2 => ?_)
  obtain ⟨d, e1, q3⟩ := pv_optb q2
  obtain ⟨z, e2, q4⟩ := pv_optb q3
  exact ix_ok w2 hr e1 e2 (qv_d q4 w2)
theorem appE_ok {pins : List Addr} {ρE ρE' : Ev} {ρ : List Rv} {M F : Mem} {n : Nat} {a : Addr} {y : D} (w : VOk pins ρE ρ M F) (ha : ρ[n]? = some (.cell a)) (e : appE ρE n y = some ρE') : ∃ rs M', Cell a (Is rs) (Is (rs ++ [.d y])) M M' ∧ rs.length < sizeLine ∧ VOk pins ρE' ρ M' F := by
  unfold appE at e
  split at e
  · rename_i xs hx
    split at e
    · rename_i hz
      cases e
      obtain ⟨a', h1, h2, h3, _⟩ := w.own hx rfl
      rw [ha] at h1; cases h1
      obtain ⟨Ma, Mb, rfl⟩ := split_of_mem h2
      refine ⟨rL xs, Ma ++ (a, Is (rL (xs ++ [y]))) :: Mb, ?_, by rw [List.length_map]; simpa using hz, h3 rfl⟩
      have : rL (xs ++ [y]) = rL xs ++ [.d y] := by unfold rL; rw [List.map_append]; rfl
      rw [this]; exact .app
    · cases e
  · rename_i m xs hx
    split at e
    · rename_i hz
      cases e
      obtain ⟨a', h1, h2, h3, _⟩ := w.own hx rfl
      rw [ha] at h1; cases h1
      obtain ⟨Ma, Mb, rfl⟩ := split_of_mem h2
      refine ⟨rL xs, Ma ++ (a, Is (rL (xs ++ [y]))) :: Mb, ?_, by rw [List.length_map]; simpa using hz, h3 rfl⟩
      have : rL (xs ++ [y]) = rL xs ++ [.d y] := by unfold rL; rw [List.map_append]; rfl
      rw [this]; exact .app
    · cases e
  · cases e
theorem so_app {o e : Expr} {p1 p2 : Pos} {vo ve : E} (hp : plainB o = true) (hn : notStar e = true) (hl : (p1.endLine == p2.line) = true) (ho : SoE X C o vo) (he : SoE X C e ve) : SoE X C (.Call (.Attribute o "append" p1) [e] [] p2) (.app vo ve) := fun pins ρE ρ M F Φ Ξ w p => by
  rw [ev] at p
  have st : starEach [e] X.env = (false, eval e X.env) :: starEach [] X.env := star_cons hn
  refine append_at (attr_no hp) (by rw [st]; rfl) hl st rfl (ho pins ρE ρ M F _ Ξ w ((pv_bind p).imp fun u ρ1 q r M1 hr w1 => ?_))
  cases u with
  | d x => exact q.elim
  | ref n =>
    obtain ⟨a, ha, rfl⟩ := hr
    obtain ⟨d0, e0, q1⟩ := pv_optb q
    obtain ⟨a', xs, ha', rfl, hm⟩ := val_has w1 e0
    rw [ha] at ha'; cases ha'
    refine ⟨a, _, rfl, hm, so_d he w1 ((pv_bind q1).imp fun y ρ2 q2 M2 w2 => ?_)⟩
    obtain ⟨ρ3, e3, q3⟩ := pv_optb q2
    obtain ⟨rs, M3, hc, hz, w3⟩ := appE_ok w2 ha e3
    exact ⟨rs, M3, hc, hz, q3 _ M3 rfl w3⟩
theorem biC_nm {f : Str} {b : Bi} (h : biC f = some b) : f = b.nm := by
  unfold biC at h
  have := List.find?_some h
  exact (by simpa using this : b.nm = f).symm
theorem boot_bi (b : Bi) : bootBuiltins b.nm = some b.val := by cases b <;> (simp only [Bi.nm, Bi.val]; decide +kernel)
theorem nm_ne (b : Bi) : b.nm ≠ "__name__" := by cases b <;> (simp only [Bi.nm]; decide)
theorem so_bi (x : Ctx X c C k) {f : Str} {b : Bi} {e : Expr} {es : List Expr} {p1 p2 : Pos} (hu : useB c.b f = true) (hb : biC f = some b) (hn : (e :: es).all notStar = true) (hs : ∀ a ∈ e :: es, SoE X C a (cE c a).v) :
    SoE X C (.Call (.Name f p1) (e :: es) [] p2) (.bi b ((cE c e).v :: cEs c es)) := fun pins ρE ρ M F Φ Ξ w p => by
  have hn' := hn
  rw [List.all_cons, Bool.and_eq_true] at hn'
  obtain ⟨g1, g2, g3⟩ := IR.useB_of x.b hu
  have e1 := biC_nm hb
  subst e1
  rw [ev] at p
  have fin : GA X (e :: es) ρ M (fun rs M1 => GC X b.val rs M1 Φ) Ξ := by
    refine so_args x (e :: es) hn hs pins ρE ρ M F _ Ξ w ((pv_bind (by rw [cEs]; exact p)).imp fun us ρ1 q rs M1 hr w1 => ?_)
    obtain ⟨ds, e1, q2⟩ := pv_optb q
    obtain ⟨z, e2, q3⟩ := pv_optb q2
    exact bi_ok w1 e1 hr e2 x.b.calm x.b.gu x.b.un (qv_d q3 w1)
  have bi : ∀ v, bootBuiltins b.nm = some v → Dl.Bi X b.nm v := fun v hv => ⟨g3, hv, nm_ne b, g2⟩
  have bb := boot_bi b
  cases b <;> first
    | exact ge_callB (bi _ bb) g1 (star_cons hn'.1) (star_any hn'.2) fin
    | exact ge_callTy (bi _ bb) g1 (star_cons hn'.1) (star_any hn'.2) fin
theorem so_lof (x : Ctx X c C k) {e : Expr} {p1 p2 : Pos} {ve : E} (hu : useB c.b "list" = true) (hn : notStar e = true) (he : SoE X C e ve) : SoO X C (.Call (.Name "list" p1) [e] [] p2) (.lof ve) := fun pins ρE ρ M F Φ Ξ w p => by
  obtain ⟨g1, g2, g3⟩ := IR.useB_of x.b hu
  rw [eo] at p
  refine ge_callTy ⟨g3, (by decide +kernel : bootBuiltins "list" = some (.type "list")), by decide, g2⟩ g1 (star_cons hn) rfl (ga_cons (star_cons hn) (he pins ρE ρ M F _ Ξ w ((pv_bind p).imp fun u ρ1 q r M1 hr w1 => ga_nil ?_)))
  obtain ⟨d, e1, q2⟩ := pv_optb q
  obtain ⟨ys, e2, q3⟩ := pv_opt q2
  exact lof_ok w1 hr e1 e2 fun a => q3 a _ w1.new
theorem so_isi (x : Ctx X c C k) {e : Expr} {t : Ty} {p1 p2 p3 : Pos} {ve : E} (hu : useB c.b "isinstance" = true) (ht : useB c.b t.nm = true) (hn : notStar e = true) (he : SoE X C e ve) : SoE X C (.Call (.Name "isinstance" p1) [e, .Name t.nm p3] [] p2) (.isi ve t) := fun pins ρE ρ M F Φ Ξ w p => by
  obtain ⟨g1, g2, g3⟩ := IR.useB_of x.b hu
  obtain ⟨k1, k2, k3⟩ := IR.useB_of x.b ht
  rw [ev] at p
  refine ge_callB ⟨g3, (by decide +kernel : bootBuiltins "isinstance" = some (.builtin "isinstance")), by decide, g2⟩ g1 (star_cons hn) (star_any (es := [.Name t.nm p3]) rfl) (ga_cons (star_cons hn) (so_d he w ((pv_bind p).imp fun u ρ1 q M1 w1 => ?_)))
  refine ga_cons (star_cons rfl) (ge_ty ⟨k3, IR.boot_ty t, IR.ty_ne t, k2⟩ k1 (ga_nil ?_))
  split at q
  · rename_i hk
    exact isi_ok hk (qv_d q w1)
  · exact q.elim
/-! ## calls of defs -/
theorem so_callO (x : Ctx X c C k) {f : Str} {e : Expr} {es : List Expr} {p1 p2 : Pos} {ps : List Str} {ords : List (List Str)} {mus : List Nat} (hg : isGl c.b f = true) (hf : c.fns.lookup f = some (ps, ords, mus)) (hn : (e :: es).all notStar = true) (hs : ∀ a ∈ e :: es, SoE X C a (cE c a).v) :
    ∀ pins ρE ρ M F (Φ : Pst) (Ξ : Xi), VOk pins ρE ρ M F → PV X.mg pins ρ F ((evs C (cEs c (e :: es)) ρE).bind fun xs ρ1 => callV C f xs ρ1) (fun r ρE' => match r with | .d x => ∀ M', VOk pins ρE' ρ M' F → Φ (.d x) M' | .ow xs => ∀ a M', VOk pins ρE' ρ M' ((a, Is (rL xs)) :: F) → Φ (.cell a) M') Ξ →
      GE X (.Call (.Name f p1) (e :: es) [] p2) ρ M Φ Ξ := fun pins ρE ρ M F Φ Ξ w p => by
  have hn' := hn
  rw [List.all_cons, Bool.and_eq_true] at hn'
  obtain ⟨Df, ar⟩ := x.fns f ps ords mus hf
  refine ge_call Df x.b.room x.b.gu (IR.gl_of x.b hg).1 (star_cons hn'.1) (star_any hn'.2) ?_
  refine so_args x (e :: es) hn hs pins ρE ρ M F _ Ξ w ((pv_bind p).imp fun us ρ1 q rs M1 hr w1 => ?_)
  exact call_ok ar w1 hr q
theorem so_callE (x : Ctx X c C k) {f : Str} {e : Expr} {es : List Expr} {p1 p2 : Pos} {ps : List Str} {ords : List (List Str)} {mus : List Nat} (hg : isGl c.b f = true) (hf : c.fns.lookup f = some (ps, ords, mus)) (hn : (e :: es).all notStar = true) (hs : ∀ a ∈ e :: es, SoE X C a (cE c a).v) :
    SoE X C (.Call (.Name f p1) (e :: es) [] p2) (.call f (cEs c (e :: es))) ∧ SoO X C (.Call (.Name f p1) (e :: es) [] p2) (.call f (cEs c (e :: es))) := by
  refine ⟨fun pins ρE ρ M F Φ Ξ w p => ?_, fun pins ρE ρ M F Φ Ξ w p => ?_⟩
  · rw [ev] at p
    refine ge_frz2 (so_callO x hg hf hn hs pins ρE ρ M F _ Ξ w ?_)
    have p := pv_bind p
    cases he : evs C (cEs c (e :: es)) ρE with
    | bad => rw [he] at p; exact p.elim
    | err z g => rw [he] at p; exact p
    | ok us ρ1 =>
      rw [he] at p
      refine (pv_bind (p : PV X.mg pins ρ F ((callV C f us ρ1).bind _) _ Ξ)).imp fun r ρ2 q => ?_
      cases r with
      | d d => exact fun M' w2 => .inl (qv_d q w2)
      | ow xs =>
        refine fun a M' w2 => .inr ?_
        obtain ⟨Ma, Mb, e1, w3⟩ := w2.out
        exact ⟨a, xs, Ma, Mb, rfl, e1, qv_d q w3⟩
  · rw [eo] at p
    refine so_callO x hg hf hn hs pins ρE ρ M F _ Ξ w ?_
    have p := pv_bind p
    cases he : evs C (cEs c (e :: es)) ρE with
    | bad => rw [he] at p; exact p.elim
    | err z g => rw [he] at p; exact p
    | ok us ρ1 =>
      rw [he] at p
      refine (pv_bind (p : PV X.mg pins ρ F ((callV C f us ρ1).bind _) _ Ξ)).imp fun r ρ2 q => ?_
      cases r with
      | d d => exact q.elim
      | ow xs => exact fun a M' w2 => q a M' w2
theorem vrels_get : ∀ {vs : List VV} {rs : List Rv} {ρ : List Rv} (i : Nat) {v : VV}, VRels ρ vs rs → vs[i]? = some v → ∃ r, rs[i]? = some r ∧ VRel ρ v r
  | [], _, _, i, _, h, e => by simp at e
  | v :: vs, _, _, 0, _, h, e => by
    obtain ⟨r, rs', rfl, h1, h2⟩ := vrels_one h
    simp at e; subst e; exact ⟨r, rfl, h1⟩
  | v :: vs, _, _, i + 1, _, h, e => by
    obtain ⟨r, rs', rfl, h1, h2⟩ := vrels_one h
    obtain ⟨q, h3, h4⟩ := vrels_get i h2 (by simpa using e)
    exact ⟨q, by simpa using h3, h4⟩
theorem pick_perm {ks ps : List Str} {vs : List VV} {rs : List Rv} {ρ : List Rv} (rl : VRels ρ vs rs) (hl : vs.length = ks.length) : VRels ρ ((permC ks ps).map fun i => vs.getD i (.d .none)) (pick ks ps rs) := by
  have hl2 := vrels_len rl
  induction ps with
  | nil => trivial
  | cons p ps ih =>
    unfold permC pick at ih ⊢
    rw [List.filterMap_cons, List.filterMap_cons]
    rw [IR.lookup_idx (by rw [← hl2, hl])]
    cases e : idxOf p ks with
    | none => exact ih
    | some i =>
      have hi : i < ks.length := (List.getElem?_eq_some_iff.mp (IR.idx_at e)).1
      have hv : vs[i]? = some vs[i] := List.getElem?_eq_getElem (by omega)
      obtain ⟨r, h1, h2⟩ := vrels_get i rl hv
      simp only [Option.bind_some, h1, List.map_cons]
      refine ⟨?_, ih⟩
      rw [List.getD_eq_getElem?_getD, hv]; exact h2
theorem evs_len : ∀ {ks : List Keyword} {ρE ρ1 : Ev} {us : List VV}, evs C (cKs c ks) ρE = .ok us ρ1 → us.length = ks.length
  | [], ρE, ρ1, us, e => by rw [cKs, evs] at e; cases e; rfl
  | ⟨nm, e0, kp⟩ :: ks, ρE, ρ1, us, e => by
    rw [cKs, evs] at e
    cases e1 : ev C (cE c e0).v ρE with
    | ok v g =>
      rw [e1] at e
      simp only [R.bind] at e
      cases e2 : evs C (cKs c ks) g with
      | ok vs g2 => rw [e2] at e; simp only [R.bind] at e; cases e; rw [List.length_cons, List.length_cons, evs_len e2]
      | err _ _ => rw [e2] at e; cases e
      | bad => rw [e2] at e; cases e
    | err _ _ => rw [e1] at e; cases e
    | bad => rw [e1] at e; cases e
theorem so_callkO (x : Ctx X c C k) {f : Str} {kw : Keyword} {ks : List Keyword} {p1 p2 : Pos} {ps : List Str} {ords : List (List Str)} {mus : List Nat} {ns : List Str} (hg : isGl c.b f = true) (hf : c.fns.lookup f = some (ps, ords, mus)) (hk : kwNames (kw :: ks) = some ns) (ho : ords.contains ns = true) (hs : ∀ a ∈ kw :: ks, SoE X C a.value (cE c a.value).v) :
    ∀ pins ρE ρ M F (Φ : Pst) (Ξ : Xi), VOk pins ρE ρ M F → PV X.mg pins ρ F ((evs C (cKs c (kw :: ks)) ρE).bind fun xs ρ1 => callV C f ((permC ns ps).map fun i => xs.getD i (.d .none)) ρ1) (fun r ρE' => match r with | .d x => ∀ M', VOk pins ρE' ρ M' F → Φ (.d x) M' | .ow xs => ∀ a M', VOk pins ρE' ρ M' ((a, Is (rL xs)) :: F) → Φ (.cell a) M') Ξ →
      GE X (.Call (.Name f p1) [] (kw :: ks) p2) ρ M Φ Ξ := fun pins ρE ρ M F Φ Ξ w p => by
  obtain ⟨Df, ar⟩ := x.fns f ps ords mus hf
  obtain ⟨a1, a2, a3, a4⟩ := IR.kw_facts (env := X.env) (pos := p2) hk
  refine ge_callK Df x.b.room x.b.gu (IR.gl_of x.b hg).1 a1 (IR.contains_mem ho) a2 (by rw [a3]; rfl) ?_
  have p := pv_bind p
  refine so_kws x (kw :: ks) hs pins ρE ρ M F _ Ξ w ?_
  cases e : evs C (cKs c (kw :: ks)) ρE with
  | bad => rw [e] at p; exact p.elim
  | err z g => rw [e] at p; exact p
  | ok us ρ1 =>
    have hl := evs_len e
    rw [e] at p
    intro rs M1 hr w1
    have hl2 : us.length = ns.length := hl.trans a4
    exact ⟨by rw [← vrels_len hr]; exact hl2, call_ok ar w1 (pick_perm hr hl2) p⟩
theorem so_callkE (x : Ctx X c C k) {f : Str} {kw : Keyword} {ks : List Keyword} {p1 p2 : Pos} {ps : List Str} {ords : List (List Str)} {mus : List Nat} {ns : List Str} (hg : isGl c.b f = true) (hf : c.fns.lookup f = some (ps, ords, mus)) (hk : kwNames (kw :: ks) = some ns) (ho : ords.contains ns = true) (hs : ∀ a ∈ kw :: ks, SoE X C a.value (cE c a.value).v) :
    SoE X C (.Call (.Name f p1) [] (kw :: ks) p2) (.callk f (cKs c (kw :: ks)) (permC ns ps)) ∧ SoO X C (.Call (.Name f p1) [] (kw :: ks) p2) (.callk f (cKs c (kw :: ks)) (permC ns ps)) := by
  refine ⟨fun pins ρE ρ M F Φ Ξ w p => ?_, fun pins ρE ρ M F Φ Ξ w p => ?_⟩
  · rw [ev] at p
    refine ge_frz2 (so_callkO x hg hf hk ho hs pins ρE ρ M F _ Ξ w ?_)
    have p := pv_bind p
    cases he : evs C (cKs c (kw :: ks)) ρE with
    | bad => rw [he] at p; exact p.elim
    | err z g => rw [he] at p; exact p
    | ok us ρ1 =>
      rw [he] at p
      refine (pv_bind (p : PV X.mg pins ρ F ((callV C f _ ρ1).bind _) _ Ξ)).imp fun r ρ2 q => ?_
      cases r with
      | d d => exact fun M' w2 => .inl (qv_d q w2)
      | ow xs =>
        refine fun a M' w2 => .inr ?_
        obtain ⟨Ma, Mb, e1, w3⟩ := w2.out
        exact ⟨a, xs, Ma, Mb, rfl, e1, qv_d q w3⟩
  · rw [eo] at p
    refine so_callkO x hg hf hk ho hs pins ρE ρ M F _ Ξ w ?_
    have p := pv_bind p
    cases he : evs C (cKs c (kw :: ks)) ρE with
    | bad => rw [he] at p; exact p.elim
    | err z g => rw [he] at p; exact p
    | ok us ρ1 =>
      rw [he] at p
      refine (pv_bind (p : PV X.mg pins ρ F ((callV C f _ ρ1).bind _) _ Ξ)).imp fun r ρ2 q => ?_
      cases r with
      | d d => exact q.elim
      | ow xs => exact fun a M' w2 => q a M' w2
end
end VM

set_option Elab.async false
set_option linter.all false
set_option maxRecDepth 100000
set_option maxHeartbeats 4000000
namespace VM
open PySem PySem.Spec PyProof.Rows L2 Dl
open IR (notStar notComp notSlice notSet notTup isTup plainB opC cpC isLst plainT star_cons star_any asg_cons marks_no fold_no swap_no attr_no true_plain plainIx slotR slotW isGl useB ownC cTg cTgs kwNames tgs_star asg_len permC idxOf Lst)
section
variable {X : Cx} {c : Cc} {C : Str → List Sl → RC} {k : Nat}
/-! ## truth -/
theorem gt_truD {e : Expr} {ρ : List Rv} {M : Mem} {Ψ : Bool → Mem → Prop} {Ξ : Xi} (hw : plainT e = true) (ha : GE X e ρ M (fun r M1 => ∃ d b, Snap M1 r d ∧ truth d = some b ∧ Ψ b M1) Ξ) : GT X e ρ M Ψ Ξ :=
  fun B H σ ok env tk => tS_of (pt_truth pe_S (true_plain hw)) (one ha ok env tk fun v H1 B1 M1 r o1 f1 q1 ⟨d, b, s, t, q⟩ => by
    refine ⟨b, ?_, B1, M1, o1, f1, q⟩
    have dp := s.dp o1 q1
    cases d with
    | none => cases dp; simp [truth] at t; subst t; rfl
    | bool => cases dp; simp [truth] at t; subst t; rfl
    | int =>
      cases dp
      simp only [truth, Option.some.injEq] at t
      rw [← t]
      show decide (_ ≠ (0 : Int)) = (_ != 0)
      rw [Bool.eq_iff_iff]; simp
    | str => cases t
    | list =>
      simp [truth] at t
      cases dp with
      | lst h1 h2 => exact .inl ⟨_, h1, by rw [isEmpty_len (DpAll.len h2), t, Bool.not_not]⟩
    | tuple =>
      simp [truth] at t
      cases dp with
      | tup h1 h2 => exact .inr (.inl ⟨_, h1, by rw [isEmpty_len (DpAll.len h2), t, Bool.not_not]⟩)
    | dict => cases t)
theorem so_tru {e : Expr} {v : E} (hw : plainT e = true) (he : SoE X C e v) : SoT X C e (.tru v) := fun pins ρE ρ M F Ψ Ξ w p => by
  rw [tv] at p
  refine gt_truD hw (he pins ρE ρ M F _ Ξ w ((pv_bind p).imp fun u ρ1 q r M1 hr w1 => ?_))
  obtain ⟨d, e1, q2⟩ := pv_optb q
  obtain ⟨b, e2, q3⟩ := pv_opt q2
  exact ⟨d, b, val_snap w1 hr e1, e2, q3 M1 w1⟩
/-! ## what is walked -/
theorem ge_up {e : Expr} {ρ : List Rv} {M : Mem} {Φ : Pst} {Ξ : Xi} (h : GE X e ρ M (fun r M1 => ∃ r', (∀ (K : Frg) (B : Hp) (v : V), RvOk K B v r → RvOk K B v r') ∧ Φ r' M1) Ξ) : GE X e ρ M Φ Ξ := fun B H σ ok env tk =>
  one h ok env tk fun v H1 B1 M1 r o1 f1 q1 ⟨r', u, k⟩ => ⟨B1, M1, r', o1, f1, u _ _ _ q1, k⟩
theorem lst_d {ds : List D} {M : Mem} : Lst (.d (.list ds)) (rL ds) M := .inr ⟨_, rfl, fun K B vs q => RvAll.ofData q⟩
theorem so_over {tg e : Expr} {v : E} (he : SoE X C e v) : SoI X C tg e (.over v) := fun pins ρE ρ M F Θ Ξ w p => by
  rw [ei] at p
  have p := pv_bind p
  cases hv : (ev C v ρE).bind dR with
  | bad => rw [hv] at p; exact p.elim
  | err z ρ1 =>
    refine IR.gi_overL (so_d he w ?_)
    rw [hv] at p ⊢; exact p
  | ok d ρ1 =>
    have hp := p
    rw [hv] at hp
    obtain ⟨xs, e1, _⟩ := pv_opt (hp : PV X.mg pins ρ F (opt (seqD d) ρ1) _ Ξ)
    cases d with
    | list ys =>
      cases e1
      refine IR.gi_overL (so_d he w ?_)
      rw [hv] at p ⊢
      have q : QI pins ρ F Θ xs ρ1 := p
      exact fun M1 w1 => ⟨_, lst_d, q _ _ M1 (dups_rL _) (fun _ => lst_d) w1⟩
    | tuple ys =>
      cases e1
      refine IR.gi_overT (ge_up (so_d he w ?_))
      rw [hv] at p ⊢
      have q : QI pins ρ F Θ xs ρ1 := p
      refine fun M1 w1 => ⟨.tup (rL xs), fun K B v q1 => ?_, _, rfl, q _ _ M1 (dups_rL _) (fun _ => trivial) w1⟩
      cases q1 with | d q1 => cases q1 with | tup h1 h2 => exact .tup h1 (RvAll.ofData h2)
    | _ => cases e1
theorem dups_rng (f : Nat → Int) : ∀ (l : List Nat), DUps (l.map fun k => .d (.int (f k))) (l.map fun k => .int (f k))
  | [] => trivial
  | a :: l => ⟨dup_d _, dups_rng f l⟩
theorem so_rng1 (x : Ctx X c C k) {tg a : Expr} {p1 p2 : Pos} {va : E} (hu : useB c.b "range" = true) (hn : notStar a = true) (ha : SoE X C a va) : SoI X C tg (.Call (.Name "range" p1) [a] [] p2) (.rng1 va) := fun pins ρE ρ M F Θ Ξ w p => by
  obtain ⟨g1, g2, g3⟩ := IR.useB_of x.b hu
  rw [ei] at p
  refine IR.gi_rng1W g3 g1 (star_cons hn) (ga_cons (star_cons hn) (so_d ha w ((pv_bind p).imp fun u ρ1 q M1 w1 => ga_nil ?_)))
  cases u with
  | int j =>
    simp only at q
    split at q
    · rename_i hs
      simp only [IR.small, Bool.and_eq_true, decide_eq_true_eq] at hs
      exact ⟨j, rfl, hs.1, hs.2, q _ _ M1 (dups_rng (fun k => 0 + (k : Nat)) _) (fun _ => trivial) w1⟩
    · exact q.elim
  | _ => exact q.elim
theorem so_rng2 (x : Ctx X c C k) {tg a b : Expr} {p1 p2 : Pos} {va vb : E} (hu : useB c.b "range" = true) (hn : notStar a = true) (hn2 : notStar b = true) (ha : SoE X C a va) (hb : SoE X C b vb) : SoI X C tg (.Call (.Name "range" p1) [a, b] [] p2) (.rng2 va vb) := fun pins ρE ρ M F Θ Ξ w p => by
  obtain ⟨g1, g2, g3⟩ := IR.useB_of x.b hu
  rw [ei] at p
  refine IR.gi_rng2W g3 g1 (by rw [star_cons hn, star_cons hn2]; rfl) (star_cons hn2) (ga_cons (star_cons hn) (so_d ha w ((pv_bind p).imp fun u ρ1 q M1 w1 => ?_)))
  refine ga_cons (star_cons hn2) (so_d hb w1 ((pv_bind q).imp fun y ρ2 q2 M2 w2 => ga_nil ?_))
  cases u with
  | int i => cases y with
    | int j =>
      simp only at q2
      split at q2
      · rename_i hs
        simp only [IR.small, Bool.and_eq_true, decide_eq_true_eq] at hs
        exact ⟨i, j, rfl, ⟨hs.1.1, hs.1.2, hs.2.1, hs.2.2⟩, q2 _ _ M2 (dups_rng (fun k => i + (k : Nat)) _) (fun _ => trivial) w2⟩
      · exact q2.elim
    | _ => exact q2.elim
  | _ => cases y <;> exact q2.elim
theorem so_rng3 (x : Ctx X c C k) {tg a b d : Expr} {p1 p2 : Pos} {va vb vd : E} (hu : useB c.b "range" = true) (hn : notStar a = true) (hn2 : notStar b = true) (hn3 : notStar d = true) (ha : SoE X C a va) (hb : SoE X C b vb) (hd : SoE X C d vd) : SoI X C tg (.Call (.Name "range" p1) [a, b, d] [] p2) (.rng3 va vb vd) := fun pins ρE ρ M F Θ Ξ w p => by
  obtain ⟨g1, g2, g3⟩ := IR.useB_of x.b hu
  rw [ei] at p
  refine IR.gi_rng3W g3 g1 (star_cons hn) (star_any (es := [b, d]) (by simp [hn2, hn3])) (ga_cons (star_cons hn) (so_d ha w ((pv_bind p).imp fun u ρ1 q M1 w1 => ?_)))
  refine ga_cons (star_cons hn2) (so_d hb w1 ((pv_bind q).imp fun y ρ2 q2 M2 w2 => ?_))
  refine ga_cons (star_cons hn3) (so_d hd w2 ((pv_bind q2).imp fun z ρ3 q3 M3 w3 => ga_nil ?_))
  cases u with
  | int i => cases y with
    | int j => cases z with
      | int l =>
        simp only at q3
        split at q3
        · rename_i hs
          simp only [IR.small, Bool.and_eq_true, decide_eq_true_eq] at hs
          obtain ⟨hs, rfl⟩ := hs
          exact ⟨i, j, rfl, ⟨hs.1.1, hs.1.2, hs.2.1, hs.2.2⟩, q3 _ _ M3 (dups_rng (fun k => i + (k : Nat) * (-1)) _) (fun _ => trivial) w3⟩
        · exact q3.elim
      | _ => exact q3.elim
    | _ => cases z <;> exact q3.elim
  | _ => cases y <;> cases z <;> exact q3.elim
theorem dup_pair {a b : D} : DUp (.tup [.d a, .d b]) (.tuple [a, b]) := fun K B v q => by
  cases q with | tup h1 h2 => exact .d (.tup h1 (RvAll.data (ds := [a, b]) h2))
theorem dups_zip : ∀ (xs ys : List D), DUps (((rL xs).zip (rL ys)).map fun p => .tup [p.1, p.2]) (zipD xs ys)
  | [], _ => by simp [zipD, DUps]
  | _ :: _, [] => by simp [zipD, DUps]
  | x :: xs, y :: ys => ⟨dup_pair, dups_zip xs ys⟩
theorem dups_enum : ∀ (xs : List D) (n : Nat), DUps (((rL xs).zipIdx n).map fun p => .tup [.d (.int (p.2 : Nat)), p.1]) ((xs.zipIdx n).map fun p => .tuple [.int (0 + (p.2 : Nat)), p.1])
  | [], _ => trivial
  | x :: xs, n => ⟨by
    show DUp (.tup [.d (.int (n : Nat)), .d x]) (.tuple [.int (0 + (n : Nat)), x])
    rw [Int.zero_add]; exact dup_pair, dups_enum xs (n + 1)⟩
theorem lst_of {d : D} {xs : List D} {M : Mem} (h : lstD d = some xs) : Lst (.d d) (rL xs) M := by
  cases d with
  | list ys => cases h; exact lst_d
  | _ => cases h
theorem so_zip (x : Ctx X c C k) {ts : List Expr} {kk : Nat} {tp : Pos} {a b : Expr} {p1 p2 : Pos} {va vb : E} (hu : useB c.b "zip" = true) (hn : notStar a = true) (hn2 : notStar b = true) (ha : SoE X C a va) (hb : SoE X C b vb) : SoI X C (.Tuple ts kk tp) (.Call (.Name "zip" p1) [a, b] [] p2) (.zip va vb) := fun pins ρE ρ M F Θ Ξ w p => by
  obtain ⟨g1, g2, g3⟩ := IR.useB_of x.b hu
  rw [ei] at p
  refine IR.gi_zipW g3 g1 (star_cons hn) (star_any (es := [b]) (by simp [hn2])) (ga_cons (star_cons hn) (so_d ha w ((pv_bind p).imp fun u ρ1 q M1 w1 => ?_)))
  refine ga_cons (star_cons hn2) (so_d hb w1 ((pv_bind q).imp fun y ρ2 q2 M2 w2 => ga_nil ?_))
  obtain ⟨xs, e1, q3⟩ := pv_optb q2
  obtain ⟨ys, e2, q4⟩ := pv_optb q3
  exact ⟨_, _, rL xs, rL ys, rfl, lst_of e1, lst_of e2, q4 _ _ M2 (dups_zip xs ys) (fun _ => ⟨lst_of e1, lst_of e2⟩) w2⟩
theorem so_enum (x : Ctx X c C k) {ts : List Expr} {kk : Nat} {tp : Pos} {a : Expr} {p1 p2 : Pos} {va : E} (hu : useB c.b "enumerate" = true) (hn : notStar a = true) (ha : SoE X C a va) : SoI X C (.Tuple ts kk tp) (.Call (.Name "enumerate" p1) [a] [] p2) (.enum va none) := fun pins ρE ρ M F Θ Ξ w p => by
  obtain ⟨g1, g2, g3⟩ := IR.useB_of x.b hu
  rw [ei] at p
  refine IR.gi_enumW g3 g1 (star_cons hn) (ga_cons (star_cons hn) (so_d ha w ((pv_bind p).imp fun u ρ1 q M1 w1 => ga_nil ?_)))
  obtain ⟨xs, e1, q3⟩ := pv_optb q
  exact ⟨_, rL xs, rfl, lst_of e1, q3 _ _ M1 (dups_enum xs 0) (fun _ => lst_of e1) w1⟩
/-! ## targets -/
def SoG (X : Cx) (vs : List Nat) (e : Expr) (t : Tg) : Prop := ∀ pins d ρE ρE' ρ M F (Ψ : List Rv → Mem → Prop), VOk pins ρE ρ M F → asgT t d ρE = some ρE' → (∀ ρ', VOk pins ρE' ρ' M F → ρ'.length = ρ.length → (∀ j, j ∉ tgS t → ρ'[j]? = ρ[j]?) → Ψ ρ' M) → GG X e (.d d) ρ M Ψ vs
theorem asgTs_len : ∀ {ts : List Tg} {xs : List D} {ρ ρ' : Ev}, asgTs ts xs ρ = some ρ' → ts.length = xs.length
  | [], [], _, _, _ => rfl
  | [], _ :: _, _, _, h => by simp [asgTs] at h
  | _ :: _, [], _, _, h => by simp [asgTs] at h
  | t :: ts, x :: xs, ρ, ρ', h => by
    rw [asgTs] at h
    split at h
    · simp [asgTs_len h]
    · cases h
mutual
theorem so_tg (x : Ctx X c C k) : ∀ (e : Expr) (t : Tg), cTg c.b e = some t → SoG X c.b.vs e t
  | .Name n pos, t, h => by
    rw [cTg] at h
    obtain ⟨i, h1, h2⟩ := Option.map_eq_some_iff.mp h
    subst h2
    obtain ⟨a1, a2, a3, a4, _⟩ := IR.slotW_of x.b h1
    intro pins d ρE ρE' ρ M F Ψ w ea k
    have e2 : ρE' = ρE.set i (.v d) := by
      rw [asgT] at ea
      exact (Option.some.inj ea).symm
    subst e2
    exact gg_name x.b.nd a1 a2 a3 (a4.elim (fun z => .inl z.2) .inr) (k _ (w.setv i d) (by simp) fun j hj => by
      rw [List.getElem?_set_ne]
      intro e; exact hj (by simp [tgS, e]))
  | .Tuple ts kk pos, t, h => by
    rw [cTg] at h
    obtain ⟨tgs, h1, h2⟩ := Option.map_eq_some_iff.mp h
    subst h2
    obtain ⟨n1, n2⟩ := tgs_star h1
    obtain ⟨l1, l2⟩ := asg_len (env := X.env) n1
    intro pins d ρE ρE' ρ M F Ψ w ea k
    rw [asgT] at ea
    split at ea
    · rename_i xs hs
      have main := so_tgs x ts tgs h1 pins xs ρE ρE' ρ M F Ψ w ea k
      have hlen : (assignEach ts X.env).length = (rL xs).length := by rw [l1, n2, asgTs_len ea, List.length_map]
      cases d with
      | tuple ys => cases hs; exact gg_tup x.b.calm (.inr ⟨_, rfl, rfl⟩) hlen l2 main
      | list ys => cases hs; exact IR.gg_lstU x.b.calm (fun K B vs q => RvAll.ofData q) hlen l2 main
      | _ => cases hs
    · cases ea
  | .BoolOp .., _, h => by simp [cTg] at h
  | .NamedExpr .., _, h => by simp [cTg] at h
  | .BinOp .., _, h => by simp [cTg] at h
  | .UnaryOp .., _, h => by simp [cTg] at h
  | .Lambda .., _, h => by simp [cTg] at h
  | .IfExp .., _, h => by simp [cTg] at h
  | .Dict .., _, h => by simp [cTg] at h
  | .Set .., _, h => by simp [cTg] at h
  | .ListComp .., _, h => by simp [cTg] at h
  | .SetComp .., _, h => by simp [cTg] at h
  | .DictComp .., _, h => by simp [cTg] at h
  | .GeneratorExp .., _, h => by simp [cTg] at h
  | .Await .., _, h => by simp [cTg] at h
  | .Yield .., _, h => by simp [cTg] at h
  | .YieldFrom .., _, h => by simp [cTg] at h
  | .Compare .., _, h => by simp [cTg] at h
  | .Call .., _, h => by simp [cTg] at h
  | .FormattedValue .., _, h => by simp [cTg] at h
  | .JoinedStr .., _, h => by simp [cTg] at h
  | .Constant .., _, h => by simp [cTg] at h
  | .Attribute .., _, h => by simp [cTg] at h
  | .Subscript .., _, h => by simp [cTg] at h
  | .Starred .., _, h => by simp [cTg] at h
  | .List .., _, h => by simp [cTg] at h
  | .Slice .., _, h => by simp [cTg] at h
theorem so_tgs (x : Ctx X c C k) : ∀ (ts : List Expr) (tgs : List Tg), cTgs c.b ts = some tgs → ∀ pins xs ρE ρE' ρ M F (Ψ : List Rv → Mem → Prop), VOk pins ρE ρ M F → asgTs tgs xs ρE = some ρE' → (∀ ρ', VOk pins ρE' ρ' M F → ρ'.length = ρ.length → (∀ j, j ∉ tgSs tgs → ρ'[j]? = ρ[j]?) → Ψ ρ' M) → GGs X ts (rL xs) ρ M Ψ c.b.vs
  | [], _, h, pins, xs, ρE, ρE', ρ, M, F, Ψ, w, ea, k => by
    rw [cTgs] at h; cases h
    cases xs with
    | nil => simp [asgTs] at ea; subst ea; exact ggs_nil (k _ w rfl fun _ _ => rfl)
    | cons _ _ => simp [asgTs] at ea
  | t :: ts, _, h, pins, xs, ρE, ρE', ρ, M, F, Ψ, w, ea, k => by
    rw [cTgs] at h
    split at h
    · rename_i a b h1 h2
      cases h
      have hn : notStar t = true := by cases t <;> first | rfl | simp [cTg] at h1
      cases xs with
      | nil => simp [asgTs] at ea
      | cons d xs =>
        rw [asgTs] at ea
        split at ea
        · rename_i ρ1 e1
          exact IR.ggs_consG (by rw [asg_cons hn]; rfl) (so_tg x t a h1 pins d ρE ρ1 ρ M F _ w e1 fun ρ' w' hl hj => so_tgs x ts b h2 pins xs ρ1 ρE' ρ' M F Ψ w' ea fun ρ2 w2 hl2 hj2 => k ρ2 w2 (hl2.trans hl) fun j hjn => by
            rw [tgSs, List.mem_append, not_or] at hjn
            rw [hj2 j hjn.2, hj j hjn.1])
        · cases ea
    · cases h
end
end
end VM

set_option Elab.async false
set_option linter.all false
set_option maxRecDepth 100000
set_option maxHeartbeats 4000000
namespace VM
open PySem PySem.Spec PyProof.Rows L2 Dl
open IR (notStar notComp notSlice notSet notTup isTup plainB opC cpC isLst plainT star_cons star_any asg_cons marks_no fold_no swap_no attr_no true_plain plainIx slotR slotW isGl useB ownC cTg cTgs kwNames tgs_star asg_len permC idxOf Lst tyC opC_eq cpC_eq all_star tyC_nm)
section
variable {pins : List Addr} {ρE : Ev} {ρ : List Rv} {M F : Mem}
theorem cOf_un {r : Rv} : cOf .un r = [] := by cases r <;> rfl
theorem erel_sw : ∀ {ρE : Ev} {ρ ρ' : List Rv}, ERel pins ρE ρ → ρ.length = ρ'.length → (∀ j : Nat, ρ[j]? = ρ'[j]? ∨ ρE[j]? = some .un) → ERel pins ρE ρ' ∧ mOf ρE ρ = mOf ρE ρ'
  | _, _, [], .nil, _, _ => ⟨.nil, rfl⟩
  | _, _, r' :: ρ', .cons (o := o) (r := r) (ρ := ρE) (rs := ρ) s t, hl, h => by
    obtain ⟨e1, e2⟩ := erel_sw (ρ' := ρ') t (by simpa using hl) fun j => by simpa using h (j + 1)
    have h0 := h 0
    simp at h0
    rcases h0 with h0 | h0
    · subst h0; exact ⟨.cons s e1, by show _ ++ _ = _ ++ _; rw [e2]⟩
    · subst h0; exact ⟨.cons (.un _) e1, by show cOf _ _ ++ _ = cOf _ _ ++ _; rw [cOf_un, cOf_un, e2]⟩
theorem VOk.sw {ρ' : List Rv} (w : VOk pins ρE ρ M F) (hl : ρ.length = ρ'.length) (h : ∀ j : Nat, ρ[j]? = ρ'[j]? ∨ ρE[j]? = some .un) : VOk pins ρE ρ' M F := by
  obtain ⟨er, G, pm⟩ := w
  obtain ⟨e1, e2⟩ := erel_sw er hl h
  exact ⟨e1, G, by rw [← e2]; exact pm⟩
theorem VOk.un1 (w : VOk pins ρE ρ M F) (v : Nat) : VOk pins (ρE.set v .un) ρ M F := by
  by_cases h : v < ρ.length
  · have := w.setu v ρ[v]
    rwa [set_same (List.getElem?_eq_getElem h)] at this
  · rw [List.set_eq_of_length_le (by have := w.1.len; omega)]; exact w
theorem VOk.wipe (w : VOk pins ρE ρ M F) : ∀ vs, VOk pins (wipeE ρE vs) ρ M F
  | [] => w
  | v :: vs => (VOk.wipe w vs).un1 v
theorem wipeE_len : ∀ (vs : List Nat), (wipeE ρE vs).length = ρE.length
  | [] => rfl
  | v :: vs => by rw [wipeE, List.length_set, wipeE_len vs]
theorem wipeE_at {j : Nat} (hj : j < ρE.length) : ∀ {vs : List Nat}, j ∈ vs → (wipeE ρE vs)[j]? = some .un
  | v :: vs, h => by
    rw [wipeE, List.getElem?_set]
    split
    · rw [if_pos (by rw [wipeE_len]; omega)]
    · rcases List.mem_cons.mp h with e | h
      · exact absurd e.symm ‹_›
      · exact wipeE_at hj h
theorem wipeR_len : ∀ (vs : List Nat), (wipeR ρ vs).length = ρ.length
  | [] => rfl
  | v :: vs => by rw [wipeR, List.length_set, wipeR_len vs]
theorem wipeR_out {j : Nat} : ∀ {vs : List Nat}, j ∉ vs → (wipeR ρ vs)[j]? = ρ[j]?
  | [], _ => rfl
  | v :: vs, h => by
    rw [List.mem_cons, not_or] at h
    rw [wipeR, List.getElem?_set_ne (fun e => h.1 e.symm), wipeR_out h.2]
theorem VOk.rest {ρ0 : Ev} (w : VOk pins ρE ρ M F) (h0 : ERel pins ρ0 ρ) : ∀ {vs : List Nat}, (vs.all fun i => plainS (ρ0.getD i .un)) = true → VOk pins (restE ρ0 ρE vs) ρ M F
  | [], _ => w
  | v :: vs, h => by
    rw [List.all_cons, Bool.and_eq_true] at h
    have ih := VOk.rest w h0 h.2
    rw [restE]
    by_cases hv : v < ρ0.length
    · have e : ρ0[v]? = some ρ0[v] := List.getElem?_eq_getElem hv
      have hp := h.1
      rw [List.getD_eq_getElem?_getD, e] at hp ⊢
      obtain ⟨r, hr, s⟩ := h0.get v e
      simp only [Option.getD_some] at hp ⊢
      cases hs : ρ0[v] with
      | un => exact ih.un1 v
      | v d =>
        rw [hs] at s
        cases s
        have := ih.setv v d
        rwa [set_same hr] at this
      | ow xs => rw [hs] at hp; cases hp
      | io n xs => rw [hs] at hp; cases hp
    · rw [List.set_eq_of_length_le]
      · exact ih
      · have := ih.1.len; have := h0.len; omega
end
section
variable {X : Cx} {c : Cc} {C : Str → List Sl → RC} {k : Nat}
theorem gg_dup {e : Expr} {r : Rv} {d : D} {ρ : List Rv} {M : Mem} {Ψ : List Rv → Mem → Prop} {vs : List Nat} (u : DUp r d) (h : GG X e (.d d) ρ M Ψ vs) : GG X e r ρ M Ψ vs := fun B H σ v ok env q => h B H σ v ok env (u _ _ _ q)
theorem comp_run {scope : Scope} {tg elt : Expr} {ifs : List Expr} {t : Tg} {vi : List E} {ve : E} {S : Mem → Prop} {ρ0 : Ev} {ρ : List Rv} {pins : List Addr} {F : Mem} {Φ : Pst} {ξ : Xi} {vs : List Nat} (hS : ∀ M, S M) (h0 : ERel pins ρ0 ρ) (hpl : (vs.all fun i => plainS (ρ0.getD i .un)) = true) (ht : ∀ j ∈ tgS t, j ∈ vs)
    (hg : AllB X scope fun X1 => SoG X1 vs tg t) (hi : AllB X scope fun X1 => ∀ pins ρE ρ M F (Ψ : Bool → Mem → Prop), VOk pins ρE ρ M F → PV X.mg pins ρ F (tvL C vi ρE) (QT pins ρ F Ψ) X0 → GTs X1 ifs ρ M Ψ X0) (he : AllB X scope fun X1 => SoE X1 C elt ve) :
    ∀ (items acc : List D) (rs : List Rv) ρw M, DUps rs items → VOk pins ρw (wipeR ρ vs) M F → (∀ j ∈ vs, j < ρw.length → ρw[j]? = some .un) →
      PV X.mg pins ρ F (lcV (fun ρ => tvL C vi ρ) (fun ρ => (ev C ve ρ).bind dR) t vs ρ0 items acc ρw) (QO pins ρ F Φ) ξ → IR.CompW X tg elt ifs scope vs ρ (Own Φ) S rs (rL acc) M := by
  intro items
  induction items with
  | nil =>
    intro acc rs ρw M du w hu p
    cases rs with
    | cons _ _ => exact du.elim
    | nil =>
      rw [lcV] at p
      refine ⟨hS M, fun a => ?_⟩
      have w2 : VOk pins ρw ρ M F := w.sw (wipeR_len vs) fun j => by
        by_cases hj : j ∈ vs
        · by_cases hl : j < ρw.length
          · exact .inr (hu j hj hl)
          · have := w.1.len
            rw [wipeR_len] at this
            exact .inl (by rw [List.getElem?_eq_none (by rw [wipeR_len]; omega), List.getElem?_eq_none (by omega)])
        · exact .inl (wipeR_out hj)
      exact p a _ (w2.rest h0 hpl).new
  | cons d items ih =>
    intro acc rs ρw M du w hu p
    cases rs with
    | nil => exact du.elim
    | cons r rs =>
      obtain ⟨u, du⟩ := du
      rw [lcV] at p
      split at p
      · rename_i hz
        refine ⟨hS M, by rw [List.length_map]; simpa using hz, fun s H Cc cl fp => ?_⟩
        split at p
        · exact p.elim
        · rename_i ρ1 e1
          refine gg_dup u (hg s H Cc cl fp pins d ρw ρ1 (wipeR ρ vs) M F _ w e1 fun ρ' w1 hl1 hj1 => fun s H Cc cl fp => ?_)
          have nxt : ∀ ρ3 M4, VOk pins ρ3 ρ' M4 F → VOk pins (wipeE ρ3 vs) (wipeR ρ vs) M4 F ∧ ∀ j ∈ vs, j < (wipeE ρ3 vs).length → (wipeE ρ3 vs)[j]? = some .un := fun ρ3 M4 w3 => by
            refine ⟨(w3.wipe vs).sw hl1 fun j => ?_, fun j hj hl => wipeE_at (by rwa [wipeE_len] at hl) hj⟩
            by_cases hj : j ∈ vs
            · by_cases hl : j < ρ3.length
              · exact .inr (wipeE_at hl hj)
              · have := w3.1.len
                exact .inl (by rw [List.getElem?_eq_none (by omega), List.getElem?_eq_none (by omega)])
            · exact .inl (hj1 j fun z => hj (ht j z))
          refine hi s H Cc cl fp pins ρ1 ρ' M F _ w1 ?_
          cases ec : tvL C vi ρ1 with
          | bad => simp only [ec] at p; exact p.elim
          | err z g => simp only [ec] at p; exact p.elim
          | ok b ρ2 =>
            simp only [ec] at p
            intro M1 w2
            refine ⟨fun eb => ?_, fun eb => ?_⟩
            · subst eb
              intro s H Cc cl fp
              refine so_d (he s H Cc cl fp) w2 ?_
              cases ee : (ev C ve ρ2).bind dR with
              | bad => simp only [ee] at p; exact p.elim
              | err z g => simp only [ee] at p; exact p.elim
              | ok v ρ3 =>
                simp only [ee] at p
                intro M4 w3
                obtain ⟨n1, n2⟩ := nxt ρ3 M4 w3
                have := ih (acc ++ [v]) rs (wipeE ρ3 vs) M4 du n1 n2 p
                have e : rL (acc ++ [v]) = rL acc ++ [.d v] := by unfold rL; rw [List.map_append]; rfl
                rw [e] at this
                exact this
            · subst eb
              obtain ⟨n1, n2⟩ := nxt ρ2 M1 w2
              exact ih acc rs (wipeE ρ2 vs) M1 du n1 n2 p
      · exact p.elim
theorem so_lc (x : Ctx X c C k) {scope : Scope} {tg it elt : Expr} {ifs : List Expr} {t : Tg} {vit ve : E} {pos : Pos} (hb : blkC c.b.N c.b.sc scope (ownC c.b scope) = true) (ho : (ownC c.b scope).isEmpty = false) (hs : notSet it = true) (hl : ifs.length ≤ 1) (ht : ∀ j ∈ tgS t, j ∈ (ownC c.b scope).map (·.2))
    (hit : SoI X C tg it vit) (hg : AllB X scope fun X1 => SoG X1 (blkOf c scope).b.vs tg t) (hi : ∀ e ∈ ifs, AllB X scope fun X1 => SoT X1 C e (cE (blkOf c scope) e).t) (he : AllB X scope fun X1 => SoE X1 C elt ve) :
    SoO X C (.ListComp elt [⟨tg, it, ifs, 0⟩] scope pos) (.lc t vit (cTs (blkOf c scope) ifs) ve ((ownC c.b scope).map (·.2))) := fun pins ρE ρ M F Φ Ξ w p => by
  rw [eo] at p
  have hown : ownC c.b scope ≠ [] := by
    intro e; rw [e] at ho; cases ho
  refine IR.ge_lcW (ownC c.b scope) (F := Own Φ) (.inr rfl) hown x.b.calm x.b.nd (by rw [x.b.hN, x.b.sc]; exact blkOk_by hb) (fold_no hs _) ?_
  refine hit pins ρE ρ M F _ Ξ w ((pv_bind p).imp fun ds ρ1 q rs S M1 du hS w1 => ?_)
  split at q
  · rename_i hpl
    refine comp_run (vs := (ownC c.b scope).map (·.2)) hS w1.1 hpl ht hg ?_ he ds [] rs _ M1 du ((w1.wipe _).sw (by rw [wipeR_len]) fun j => ?_) (fun j hj hl => wipeE_at (by rwa [wipeE_len] at hl) hj) q
    · intro s H Cc cl fp pins ρE ρ M F Ψ w p
      match ifs, hl, hi, p with
      | [], _, _, p => rw [cTs, tvL] at p; exact p M w
      | [e], _, hi, p =>
        rw [cTs, cTs, tvL] at p
        exact hi e (by simp) s H Cc cl fp pins ρE ρ M F Ψ X0 w p
      | _ :: _ :: _, hl, _, _ => simp at hl
    · by_cases hj : j ∈ (ownC c.b scope).map (·.2)
      · by_cases hl : j < ρ1.length
        · exact .inr (wipeE_at hl hj)
        · have := w1.1.len
          exact .inl (by rw [List.getElem?_eq_none (by omega), List.getElem?_eq_none (by rw [wipeR_len]; omega)])
      · exact .inl (wipeR_out hj).symm
  · exact q.elim
end
end VM

set_option Elab.async false
set_option linter.all false
set_option maxRecDepth 100000
set_option maxHeartbeats 4000000
namespace VZ
open PySem PySem.Calls PyProof.Rows PyProof.V PySem.Spec PySem.W
def ZSt (z TI TO i1 i2 l1 l2 S : Addr) (xs ys : Array Value) (i : Nat) (h : Heap) : Prop :=
  IsPair h TI (.ref i1) (.ref i2) ∧ h.IsListIter i1 l1 i ∧ h.IsListIter i2 l2 i ∧ h.IsList l1 xs ∧ h.IsList l2 ys ∧
    ((IsZip h z TI TO .none ∧ ∃ a b, IsPair h TO a b) ∨ ∃ T f oT, IsZipHeld h z TI TO T f ∧ h.get? T = some oT ∧ T ≠ z ∧ T ≠ i1 ∧ T ≠ i2 ∧ T ≠ S)
structure ZAp (z TI TO i1 i2 l1 l2 S : Addr) : Prop where
  D : ZipApart z TI TO i1 i2 l1 l2
  z : z ≠ S
  TI : TI ≠ S
  TO : TO ≠ S
  i1 : i1 ≠ S
  i2 : i2 ≠ S
  l1 : l1 ≠ S
  l2 : l2 ≠ S
theorem ZSt.keep {z TI TO i1 i2 l1 l2 S : Addr} {xs ys : Array Value} {i : Nat} {h h' : Heap} (ap : ZAp z TI TO i1 i2 l1 l2 S) (st : ZSt z TI TO i1 i2 l1 l2 S xs ys i h) (hk : ∀ b o, b ≠ S → h.get? b = some o → h'.get? b = some o) : ZSt z TI TO i1 i2 l1 l2 S xs ys i h' := by
  obtain ⟨hTI, h1, h2, hl1, hl2, hz⟩ := st
  refine ⟨hk _ _ ap.TI hTI, h1.at fun o e => hk _ o ap.i1 e, h2.at fun o e => hk _ o ap.i2 e, hl1.at fun o e => hk _ o ap.l1 e, hl2.at fun o e => hk _ o ap.l2 e, ?_⟩
  rcases hz with ⟨hz, a, b, hTO⟩ | ⟨T, f, oT, hz, hT, r1, r2, r3, r4⟩
  · exact .inl ⟨hk _ _ ap.z hz, a, b, hk _ _ ap.TO hTO⟩
  · exact .inr ⟨T, f, oT, hk _ _ ap.z hz, hk _ _ r4 hT, r1, r2, r3, r4⟩
section
variable {prog : Program} {w : World} {A : Around} {E : Value → Shared → Prop} {s : Shared} {z TI TO i1 i2 l1 l2 S : Addr} {xs ys : Array Value}
theorem zl_item {i : Nat} {Q : Option Value → Shared → Prop} (ap : ZAp z TI TO i1 i2 l1 l2 S) (st : ZSt z TI TO i1 i2 l1 l2 S xs ys i s.heap) (hS : S < s.heap.objs.size) (hx : i < xs.size) (hy : i < ys.size)
    (hQ : ∀ h', ZSt z TI TO i1 i2 l1 l2 S xs ys (i + 1) h' → h'.get? s.heap.objs.size = some { cls := .type "tuple", data := .seq #[xs[i], ys[i]] } → 
      (∀ b o, b ≠ z → b ≠ TO → b ≠ i1 → b ≠ i2 → s.heap.get? b = some o → h'.get? b = some o) → Q (some (.ref s.heap.objs.size)) { s with heap := h' }) : wpAny (model prog w) A (pyNext (.ref z)) Q E s := by
  obtain ⟨hTI, h1, h2, hl1, hl2, hz⟩ := st
  have D := ap.D
  have ex := Array.getElem?_eq_getElem hx
  have ey := Array.getElem?_eq_getElem hy
  have lt : ∀ {c o}, s.heap.get? c = some o → s.heap.objs.size ≠ c := fun e => Nat.ne_of_gt (Heap.lt_size e)
  have n1 : s.heap.objs.size ≠ i1 := let ⟨_, e, _⟩ := h1; lt e
  have n2 : s.heap.objs.size ≠ i2 := let ⟨_, e, _⟩ := h2; lt e
  rcases hz with ⟨hz, a, b, hTO⟩ | ⟨T, f, oT, hz, hT, r1, r2, r3, r4⟩
  · refine wpAny_pyNext_zip_item D hz hTI hTO h1 h2 hl1 hl2 ex ey fun h' a1 a2 a3 a4 a5 a6 hk => ?_
    exact hQ h' ⟨hk _ _ D.TIz D.TITO D.TIi1 D.TIi2 hTI, a3, a4, hl1.at fun o e => hk _ o D.l1z D.l1TO D.l1i1 D.l1i2 e, hl2.at fun o e => hk _ o D.l2z D.l2TO D.l2i1 D.l2i2 e,
        .inr ⟨s.heap.objs.size, false, _, a1, a5, lt hz, n1, n2, Nat.ne_of_gt hS⟩⟩ a5 fun c o e1 e2 e3 e4 e => hk c o e1 e2 e3 e4 e
  · refine wpAny_pyNext_zip_item_held D hz hT hTI h1 h2 hl1 hl2 ex ey fun h' a1 a3 a4 a5 a6 hk => ?_
    exact hQ h' ⟨hk _ _ D.TIz D.TIi1 D.TIi2 hTI, a3, a4, hl1.at fun o e => hk _ o D.l1z D.l1i1 D.l1i2 e, hl2.at fun o e => hk _ o D.l2z D.l2i1 D.l2i2 e,
        .inr ⟨T, true, oT, a1, hk _ _ r1 r2 r3 hT, r1, r2, r3, r4⟩⟩ a5 fun c o e1 e2 e3 e4 e => hk c o e1 e3 e4 e
theorem zl_done {i : Nat} {Q : Option Value → Shared → Prop} (hh : A.handled = none) (ap : ZAp z TI TO i1 i2 l1 l2 S) (st : ZSt z TI TO i1 i2 l1 l2 S xs ys i s.heap) (hend : xs[i]? = none ∨ ys[i]? = none)
    (hQ : ∀ h', (∀ b o, b ≠ z → b ≠ TO → b ≠ i1 → b ≠ i2 → s.heap.get? b = some o → h'.get? b = some o) → Q none { s with heap := h' }) : wpAny (model prog w) A (pyNext (.ref z)) Q E s := by
  obtain ⟨hTI, h1, h2, hl1, hl2, hz⟩ := st
  have D := ap.D
  rcases hz with ⟨hz, a, b, hTO⟩ | ⟨T, f, oT, hz, hT, r1, r2, r3, r4⟩
  · exact wpAny_pyNext_zip_end hh D hz hTI hTO h1 h2 hl1 hl2 hend fun h' hk => hQ h' fun c o e1 e2 e3 e4 e => hk c o e1 e2 e3 e4 e
  · exact wpAny_pyNext_zip_end_held hh D hz hT hTI h1 h2 hl1 hl2 hend fun h' hk => hQ h' fun c o e1 e2 e3 e4 e => hk c o e1 e3 e4 e
/-- the pairs that are made -/
structure ZG (xs ys : Array Value) (lo : Addr) (h : Heap) (as : List Addr) : Prop where
  rise : as.Pairwise (· < ·)
  above : ∀ a ∈ as, lo < a
  pairs : ∀ (j : Nat) (a : Addr), as[j]? = some a → ∃ (hx : j < xs.size) (hy : j < ys.size), h.get? a = some { cls := .type "tuple", data := .seq #[xs[j], ys[j]] }
theorem ZG.there {xs ys : Array Value} {lo : Addr} {h : Heap} {as : List Addr} (g : ZG xs ys lo h as) {a : Addr} (ha : a ∈ as) : a < h.objs.size := by
  obtain ⟨j, hj⟩ := List.mem_iff_getElem?.mp ha
  obtain ⟨_, _, e⟩ := g.pairs j a hj
  exact Heap.lt_size e
theorem zl_loop {R : Result → Shared → Prop} (hh : A.handled = none) (ap : ZAp z TI TO i1 i2 l1 l2 S) (low : z < S ∧ TO < S ∧ i1 < S ∧ i2 < S) (hn : min xs.size ys.size ≤ sizeLine) (res : Value) {h₁ : Heap}
    (hR : ∀ h' tk acc c as, (∀ b o, b ≠ S → b ≠ z → b ≠ TO → b ≠ i1 → b ≠ i2 → h₁.get? b = some o → h'.get? b = some o) → h'.get? S = some { cls := .type "list", dict := none, data := .seq acc c, slots := #[] } → as.length = min xs.size ys.size → ZG xs ys S h' as →
      acc.toList = as.map Value.ref → R (.ok (.ret res)) { s with heap := h', toks := tk }) :
    ∀ (k i : Nat) (h : Heap) (tk c : Nat) (acc : Array Value) (as : List Addr), min xs.size ys.size - i = k → i ≤ min xs.size ys.size → ZSt z TI TO i1 i2 l1 l2 S xs ys i h → (∀ b o, b ≠ S → b ≠ z → b ≠ TO → b ≠ i1 → b ≠ i2 → h₁.get? b = some o → h.get? b = some o) →
      h.get? S = some { cls := .type "list", dict := none, data := .seq acc c, slots := #[] } → acc.toList = as.map Value.ref → as.length = i → ZG xs ys S h as →
      codeAny (model prog w) A (.builtin "list.extend.loop" ⟨[.ref S, .ref z, res], []⟩) R { s with heap := h, toks := tk } := by
  intro k
  induction k with
  | zero =>
    intro i h tk c acc as hk hi hst hkeep hS hacc hal hG
    have hin : i = min xs.size ys.size := by omega
    refine codeAny_builtin PySem.F.entry_extend_loop ?_
    rw [Around.under_plainId PySem.F.plain_extend_loop _]
    show wpAny _ A.in1 (pyNext (.ref z) >>= _) _ _ _
    have hend : xs[i]? = none ∨ ys[i]? = none := by
      rcases Nat.le_total xs.size ys.size with h | h
      · exact .inl (Array.getElem?_eq_none (by rw [hin, Nat.min_eq_left h]; exact Nat.le_refl _))
      · exact .inr (Array.getElem?_eq_none (by rw [hin, Nat.min_eq_right h]; exact Nat.le_refl _))
    refine wpAny_bind (zl_done (s := { s with heap := h, toks := tk }) (A := A.in1) hh ap hst hend fun h' he => ?_)
    have nS : S ≠ z ∧ S ≠ TO ∧ S ≠ i1 ∧ S ≠ i2 := ⟨Nat.ne_of_gt low.1, Nat.ne_of_gt low.2.1, Nat.ne_of_gt low.2.2.1, Nat.ne_of_gt low.2.2.2⟩
    refine wpAny_pure (hR h' tk acc c as (fun b o h0 h1 h2 h3 h4 e => he b o h1 h2 h3 h4 (hkeep b o h0 h1 h2 h3 h4 e)) (he S _ nS.1 nS.2.1 nS.2.2.1 nS.2.2.2 hS) (by omega) ⟨hG.rise, hG.above, fun j a hj => ?_⟩ hacc)
    obtain ⟨hj1, hj2, e3⟩ := hG.pairs j a hj
    have := hG.above a (List.mem_of_getElem? hj)
    exact ⟨hj1, hj2, he a _ (Nat.ne_of_gt (Nat.lt_trans low.1 this)) (Nat.ne_of_gt (Nat.lt_trans low.2.1 this)) (Nat.ne_of_gt (Nat.lt_trans low.2.2.1 this)) (Nat.ne_of_gt (Nat.lt_trans low.2.2.2 this)) e3⟩
  | succ k ih =>
    intro i h tk c acc as hk hi hst hkeep hS hacc hal hG
    have hx : i < xs.size := by omega
    have hy : i < ys.size := by omega
    have hsz : acc.size = i := by rw [← Array.length_toList, hacc, List.length_map, hal]
    have hSl : S < h.objs.size := Heap.lt_size hS
    have nS : S ≠ z ∧ S ≠ TO ∧ S ≠ i1 ∧ S ≠ i2 := ⟨Nat.ne_of_gt low.1, Nat.ne_of_gt low.2.1, Nat.ne_of_gt low.2.2.1, Nat.ne_of_gt low.2.2.2⟩
    refine codeAny_builtin PySem.F.entry_extend_loop ?_
    rw [Around.under_plainId PySem.F.plain_extend_loop _]
    show wpAny _ A.in1 (pyNext (.ref z) >>= _) _ _ _
    refine wpAny_bind (zl_item (s := { s with heap := h, toks := tk }) ap hst hSl hx hy fun h' hst' ht hkp => ?_)
    dsimp only at ht hkp ⊢
    have hS' := hkp S _ nS.1 nS.2.1 nS.2.2.1 nS.2.2.2 hS
    have up : ∀ b o, b ≠ S → h'.get? b = some o → (h'.update S (Obj.mapSeq (·.push (Value.ref h.objs.size)))).get? b = some o := fun b o hb e => (Heap.get?_update_other _ _ (Ne.symm hb)).trans e
    show wpAny _ A.in1 (updateSeq S (·.push (Value.ref h.objs.size)) >>= _) _ _ _
    refine wpAny_bind ?_
    refine wpAny_updateSeq hS' rfl (wpAny_pure ⟨plainId_quiet PySem.F.plain_extend_loop _, ih (i + 1) _ tk _ (acc.push (Value.ref h.objs.size)) (as ++ [h.objs.size]) (by omega) (by omega) (hst'.keep ap up)
      (fun b o h0 h1 h2 h3 h4 e => up b o h0 (hkp b o h1 h2 h3 h4 (hkeep b o h0 h1 h2 h3 h4 e))) (Heap.get?_update_self _ hS' rfl) (by rw [Array.toList_push, hacc, List.map_append]; rfl) (by rw [List.length_append, hal]; rfl) ⟨?_, ?_, ?_⟩⟩) (by rw [hsz]; omega) (by show (acc.push (Value.ref h.objs.size)).size ≤ sizeLine + 1; rw [Array.size_push]; omega)
    · refine List.pairwise_append.mpr ⟨hG.rise, List.pairwise_singleton _ _, fun a ha b hb => ?_⟩
      rw [List.mem_singleton.mp hb]
      exact hG.there ha
    · intro a ha
      rcases List.mem_append.mp ha with ha | ha
      · exact hG.above a ha
      · rw [List.mem_singleton.mp ha]; exact hSl
    · intro j b hj
      rcases Nat.lt_trichotomy j as.length with h1 | h1 | h1
      · rw [List.getElem?_append_left h1] at hj
        obtain ⟨hj1, hj2, e3⟩ := hG.pairs j b hj
        have hb := hG.above b (List.mem_of_getElem? hj)
        exact ⟨hj1, hj2, up b _ (Nat.ne_of_gt hb) (hkp b _ (Nat.ne_of_gt (Nat.lt_trans low.1 hb)) (Nat.ne_of_gt (Nat.lt_trans low.2.1 hb)) (Nat.ne_of_gt (Nat.lt_trans low.2.2.1 hb)) (Nat.ne_of_gt (Nat.lt_trans low.2.2.2 hb)) e3)⟩
      · subst h1
        have hb : h.objs.size = b := by simpa using hj
        subst hb
        exact ⟨by omega, by omega, by subst hal; exact up _ _ (Nat.ne_of_gt hSl) ht⟩
      · have hnone : (as ++ [h.objs.size])[j]? = none := List.getElem?_eq_none (by rw [List.length_append, List.length_singleton]; omega)
        rw [hnone] at hj; cases hj
theorem zip_no_len : typeLookup (.type "zip") "__len__" = pure none := by rw [typeLookup_type, builtinLookup_eq_fast]; kernel_rfl
theorem zip_no_hint : typeLookup (.type "zip") "__length_hint__" = pure none := by rw [typeLookup_type, builtinLookup_eq_fast]; kernel_rfl
theorem ZSt.type {i : Nat} {s : Shared} (st : ZSt z TI TO i1 i2 l1 l2 S xs ys i s.heap) : s.TypeIs (.ref z) "zip" := by
  obtain ⟨hTI, h1, h2, hl1, hl2, hz⟩ := st
  rcases hz with ⟨hz, _⟩ | ⟨T, f, oT, hz, _⟩
  · exact ⟨_, hz, rfl⟩
  · exact ⟨_, hz, rfl⟩
theorem zl_extend {R : Result → Shared → Prop} (hh : A.handled = none) (ap : ZAp z TI TO i1 i2 l1 l2 S) (low : z < S ∧ TO < S ∧ i1 < S ∧ i2 < S) (hn : min xs.size ys.size ≤ sizeLine) (res : Value) (c₀ : Nat) (hS : s.heap.get? S = some { cls := .type "list", data := .seq #[] c₀ })
    (hz : IsZip s.heap z TI TO .none) (st : ZSt z TI TO i1 i2 l1 l2 S xs ys 0 s.heap)
    (hR : ∀ h' tk acc c as, (∀ b o, b ≠ S → b ≠ z → b ≠ TO → b ≠ i1 → b ≠ i2 → s.heap.get? b = some o → h'.get? b = some o) → h'.get? S = some { cls := .type "list", dict := none, data := .seq acc c, slots := #[] } → as.length = min xs.size ys.size → ZG xs ys S h' as →
      acc.toList = as.map Value.ref → R (.ok (.ret res)) { s with heap := h', toks := tk }) :
    wpAny (model prog w) A.in1 (Builtin.List.listExtendWith (.ref S) (.ref z) res)
      (fun fin s' => match fin with | .done f => R (.ok f) s' | .again c' => c'.quiet = true ∧ codeAny (model prog w) A c' R s') (fun e s' => R (.error e) s') s := by
  have nz : S ≠ z := Nat.ne_of_gt low.1
  have key : ∀ (h : Heap) (c₁ tk : Nat), (∀ b o, b ≠ S → s.heap.get? b = some o → h.get? b = some o) → h.get? S = some { cls := .type "list", data := .seq #[] c₁ } → codeAny (model prog w) A (.builtin "list.extend.loop" ⟨[.ref S, .ref z, res], []⟩) R { s with heap := h, toks := tk } := by
    intro h c₁ tk hk hS₁
    exact zl_loop (s := s) (h₁ := s.heap) hh ap low hn res hR (min xs.size ys.size) 0 h tk c₁ #[] [] (Nat.sub_zero _) (Nat.zero_le _) (st.keep ap hk) (fun b o hb _ _ _ _ e => hk b o hb e) hS₁ rfl rfl ⟨List.Pairwise.nil, (fun _ ha => nomatch ha), (fun j a hj => by simp at hj)⟩
  unfold Builtin.List.listExtendWith
  refine wpAny_bind (wpAny_typeOf st.type ?_)
  have h1 : Builtin.List.listSameRef (.ref S) (.ref z) = false := by simp [Builtin.List.listSameRef, nz]
  have h2 : (Value.type "zip" == Value.type "list") = false := by decide
  have h3 : (Value.type "zip" == Value.type "tuple") = false := by decide
  simp only [h1, h2, h3, Bool.or_false, Bool.false_eq_true, if_false]
  refine wpAny_bind (wpAny_pyIter_zip hz ?_)
  refine wpAny_bind (wpAny_holding ?_)
  unfold Builtin.List.listLengthHint
  refine wpAny_bind (wpAny_specialOf st.type zip_no_len ?_)
  show wpAny _ A.in1 (specialOf (Value.ref z) (Str.ofString "__length_hint__") >>= _) _ _ _
  refine wpAny_bind (wpAny_specialOf st.type zip_no_hint ?_)
  refine wpAny_pure ?_
  show wpAny _ A.in1 (rule "list.extend.makes-room" >>= fun _ => Builtin.List.listTouch (.ref S) >>= fun _ => again (.builtin "list.extend.loop" ⟨[.ref S, .ref z, res], []⟩)) _ _ _
  refine wpAny_bind (wpAny_rule ?_)
  refine wpAny_bind ?_
  show wpAny _ A.in1 (updateSeq S (·.push .none) >>= fun _ => updateSeq S (·.pop)) _ _ _
  refine wpAny_bind (wpAny_updateSeq hS rfl ?_)
  have hS₂ := Heap.get?_update_self (Obj.mapSeq (·.push Value.none)) hS rfl
  refine wpAny_updateSeq (hz := by seq_fits) hS₂ rfl ?_
  have hS₃ := Heap.get?_update_self (Obj.mapSeq (·.pop)) hS₂ rfl
  refine wpAny_pure ⟨plainId_quiet PySem.F.plain_extend_loop _, key _ _ _ (fun b o hb e => ?_) hS₃⟩
  exact (Heap.get?_update_other _ _ (Ne.symm hb)).trans ((Heap.get?_update_other _ _ (Ne.symm hb)).trans e)
theorem zl_init {R : Result → Shared → Prop} (hh : A.handled = none) (ap : ZAp z TI TO i1 i2 l1 l2 S) (low : z < S ∧ TO < S ∧ i1 < S ∧ i2 < S) (hn : min xs.size ys.size ≤ sizeLine) (hS : s.heap.get? S = some { cls := .type "list", data := .seq #[] })
    (hz : IsZip s.heap z TI TO .none) (st : ZSt z TI TO i1 i2 l1 l2 S xs ys 0 s.heap)
    (hR : ∀ h' tk acc c as, (∀ b o, b ≠ S → b ≠ z → b ≠ TO → b ≠ i1 → b ≠ i2 → s.heap.get? b = some o → h'.get? b = some o) → h'.get? S = some { cls := .type "list", dict := none, data := .seq acc c, slots := #[] } → as.length = min xs.size ys.size → ZG xs ys S h' as →
      acc.toList = as.map Value.ref → R (.ok (.ret .none)) { s with heap := h', toks := tk }) :
    wpAny (model prog w) A.in1 (Builtin.«list.__init__» ⟨[.ref S, .ref z], []⟩)
      (fun fin s' => match fin with | .done f => R (.ok f) s' | .again c' => c'.quiet = true ∧ codeAny (model prog w) A c' R s') (fun e s' => R (.error e) s') s := by
  show wpAny _ _ (do let old ← Builtin.List.listItems (.ref S); Builtin.List.listUpdate (.ref S) (fun _ => #[]); letGo old.toList.reverse; Builtin.List.listExtendWith (.ref S) (.ref z) .none) _ _ s
  refine wpAny_bind ?_
  unfold Builtin.List.listItems
  refine wpAny_bind (wpAny_seqItems hS rfl (wpAny_pure ?_))
  show wpAny _ _ (updateSeq S (fun _ => #[]) >>= fun _ => letGo (#[] : Array Value).toList.reverse >>= fun _ => Builtin.List.listExtendWith (.ref S) (.ref z) .none) _ _ s
  refine wpAny_bind (wpAny_updateSeq hS rfl ?_)
  have hS₂ := Heap.get?_update_self (Obj.mapSeq (fun _ => (#[] : Array Value))) hS rfl
  have oth : ∀ b o, b ≠ S → s.heap.get? b = some o → (s.heap.update S (Obj.mapSeq (fun _ => (#[] : Array Value)))).get? b = some o :=
    fun b o hb e => (Heap.get?_update_other _ _ (Ne.symm hb)).trans e
  refine wpAny_bind (wpAny_letGo ?_)
  exact zl_extend (s := { s with heap := s.heap.update S (Obj.mapSeq (fun _ => (#[] : Array Value))) }) hh ap low hn .none _ hS₂ (oth z _ ap.z hz) (st.keep ap oth) fun h' tk acc c as hk hS' hl hG hacc => hR h' tk acc c as (fun b o h0 h1 h2 h3 h4 e => hk b o h0 h1 h2 h3 h4 (oth b o h0 e)) hS' hl hG hacc
end
section
variable {prog : Program} {w : World} {A : Around} {E : Value → Shared → Prop} {s : Shared} {l1 l2 : Addr} {xs ys : Array Value}
/-- list(zip(l1, l2)) -/
theorem zl_call {Q : Value → Shared → Prop} (hh : A.handled = none) (hl1 : s.heap.IsList l1 xs) (hl2 : s.heap.IsList l2 ys) (b1 : l1 < s.heap.objs.size) (b2 : l2 < s.heap.objs.size) (hn : min xs.size ys.size ≤ sizeLine)
    (hQ : ∀ h' tk acc c as, (∀ b o, s.heap.get? b = some o → h'.get? b = some o) → h'.get? (s.heap.objs.size + 5) = some { cls := .type "list", dict := none, data := .seq acc c, slots := #[] } → as.length = min xs.size ys.size → ZG xs ys (s.heap.objs.size + 5) h' as →
      acc.toList = as.map Value.ref → Q (.ref (s.heap.objs.size + 5)) { s with heap := h', toks := tk }) :
    wpAny (model prog w) A (call (.type "zip") [.ref l1, .ref l2]) (fun v s1 => wpAny (model prog w) A (call (.type "list") [v]) Q E s1) E s := by
  refine call_zip_2 hl1 hl2 fun h' hz hTI hTO h1 h2 hsz hk => ?_
  have D := PySem.W.ktu_apart s.heap.objs.size l1 l2 b1 b2
  refine callType_codes (Q₁ := fun obj s₁ => obj = .ref (s.heap.objs.size + 5) ∧ s₁ = { s with heap := h'.push { cls := .type "list", data := .seq #[] } }) PySem.F.called_list (PySem.F.typeCall_list_1 _) PySem.F.entry_list_init
    (by rw [← hsz]; exact code_list_new _ ⟨rfl, rfl⟩) fun obj s₁ h₁ => ?_
  obtain ⟨rfl, rfl⟩ := h₁
  have hS : (h'.push { cls := .type "list", data := .seq #[] }).get? (s.heap.objs.size + 5) = some { cls := .type "list", data := .seq #[] } := by rw [← hsz]; exact Heap.get?_push_size _ rfl
  have lw : ∀ k : Nat, k < 5 → s.heap.objs.size + k < s.heap.objs.size + 5 := fun k hk => Nat.add_lt_add_left hk _
  have up : ∀ b o, h'.get? b = some o → (h'.push { cls := .type "list", data := .seq #[] }).get? b = some o := fun b o e => Heap.get?_push_of_some _ e
  have nl : ∀ b : Nat, b < s.heap.objs.size + 5 → b ≠ s.heap.objs.size + 5 := fun b h => Nat.ne_of_lt h
  have ap : ZAp (s.heap.objs.size + 4) (s.heap.objs.size + 2) (s.heap.objs.size + 3) s.heap.objs.size (s.heap.objs.size + 1) l1 l2 (s.heap.objs.size + 5) := ⟨D, nl _ (Nat.lt_succ_self _), nl _ (by omega), nl _ (by omega), nl _ (by omega), nl _ (by omega), nl _ (Nat.lt_of_lt_of_le b1 (by omega)), nl _ (Nat.lt_of_lt_of_le b2 (by omega))⟩
  refine ⟨⟨_, hS, rfl⟩, PySem.F.args_list_init_2 _ _, zl_init (A := A.in1) (s := { s with heap := h'.push { cls := .type "list", data := .seq #[] } }) hh ap ⟨lw 4 (by decide), lw 3 (by decide), lw 0 (by decide), lw 1 (by decide)⟩ hn hS (up _ _ hz) ⟨up _ _ hTI, h1.at fun o e => up _ o e, h2.at fun o e => up _ o e, (hl1.at fun o e => up _ o (hk _ o e)), (hl2.at fun o e => up _ o (hk _ o e)), .inl ⟨up _ _ hz, _, _, up _ _ hTO⟩⟩ (fun h'' tk acc c as hk' hS' hl hG hacc => ?_)⟩
  refine ⟨rfl, hQ h'' tk acc c as (fun b o e => ?_) hS' hl hG hacc⟩
  have hb := Heap.lt_size e
  exact hk' b o (Nat.ne_of_lt (Nat.lt_of_lt_of_le hb (by omega))) (Nat.ne_of_lt (Nat.lt_of_lt_of_le hb (by omega))) (Nat.ne_of_lt (Nat.lt_of_lt_of_le hb (by omega))) (Nat.ne_of_lt hb) (Nat.ne_of_lt (Nat.lt_of_lt_of_le hb (by omega))) (up _ _ (hk b o e))
end
end VZ

set_option Elab.async false
set_option linter.all false
set_option maxRecDepth 100000
set_option maxHeartbeats 4000000
namespace VM
open PySem PySem.Spec PyProof.Rows L2 Dl
open IR (notStar useB star_cons star_any Lst)
section
variable {X : Cx} {M : Mem} {ρ : List Rv} {Φ : Pst} {Ξ : Xi}
/-- new pairs, then the list of them -/
def putP (H : Hp) : List Addr → List (V × V) → Hp
  | t :: ts, p :: ps => putP (upd H t (.tup [p.1, p.2])) ts ps
  | _, _ => H
theorem putP_off {b : Addr} : ∀ (ts : List Addr) (ps : List (V × V)) (H : Hp), b ∉ ts → putP H ts ps b = H b
  | [], _, _, _ => rfl
  | _ :: _, [], _, _ => rfl
  | t :: ts, p :: ps, H, h => by
    rw [List.mem_cons, not_or] at h
    show putP (upd H t _) ts ps b = H b
    rw [putP_off ts ps _ h.2, upd_ne h.1]
theorem putP_at : ∀ (ts : List Addr) (ps : List (V × V)) (H : Hp) (j : Nat) (t : Addr) (p : V × V), ts.Nodup → ts[j]? = some t → ps[j]? = some p → putP H ts ps t = some (.tup [p.1, p.2])
  | [], _, _, j, _, _, _, h, _ => by simp at h
  | _ :: _, [], _, j, _, _, _, _, h => by simp at h
  | a :: ts, q :: ps, H, 0, t, p, nd, h1, h2 => by
    simp at h1 h2; subst h1 h2
    show putP (upd H a _) ts ps a = _
    rw [putP_off ts ps _ (List.nodup_cons.mp nd).1, upd_same]
  | a :: ts, q :: ps, H, j + 1, t, p, nd, h1, h2 => putP_at ts ps _ j t p (List.nodup_cons.mp nd).2 (by simpa using h1) (by simpa using h2)
theorem ok_putP {K : Frg} : ∀ (ts : List Addr) (ps : List (V × V)) (B H : Hp) (M : Mem), Ok K B H M → ts.Nodup → (∀ t ∈ ts, H t = none) → Ok K (putP B ts ps) (putP H ts ps) M ∧ Fr B H M (putP B ts ps) (putP H ts ps) M
  | [], _, B, H, M, ok, _, _ => ⟨ok, .refl⟩
  | _ :: _, [], B, H, M, ok, _, _ => ⟨ok, .refl⟩
  | t :: ts, p :: ps, B, H, M, ok, nd, hn => by
    obtain ⟨o1, f1⟩ := ok_frz (o := .tup [p.1, p.2]) ok (hn t (by simp))
    have nd' := List.nodup_cons.mp nd
    obtain ⟨o2, f2⟩ := ok_putP ts ps _ _ M o1 nd'.2 fun u hu => by
      have ne : u ≠ t := fun e => by subst e; exact nd'.1 hu
      rw [upd_ne ne]; exact hn u (List.mem_cons_of_mem _ hu)
    exact ⟨o2, f1.trans f2⟩
theorem rvAll_putP {K : Frg} : ∀ (ts : List Addr) (vs ws : List V) (xs ys : List D) (B B' : Hp), Same B B' → ts.length = min vs.length ws.length → (∀ (j : Nat) (t : Addr) (p : V × V), ts[j]? = some t → (vs.zip ws)[j]? = some p → B' t = some (.tup [p.1, p.2])) → DpAll K B vs xs → DpAll K B ws ys →
    RvAll K B' (ts.map V.ref) (rL (zipD xs ys))
  | [], vs, ws, xs, ys, B, B', sm, hl, ha, d1, d2 => by
    have l1 := DpAll.len d1
    have l2 := DpAll.len d2
    have : zipD xs ys = [] := by
      cases xs with
      | nil => rfl
      | cons _ _ => cases ys with
        | nil => rfl
        | cons _ _ => simp at hl l1 l2; omega
    rw [this]; exact .nil
  | t :: ts, [], ws, _, _, _, _, _, hl, _, _, _ => by simp at hl
  | t :: ts, v :: vs, [], _, _, _, _, _, hl, _, _, _ => by simp at hl
  | t :: ts, v :: vs, w :: ws, _, _, B, B', sm, hl, ha, .cons a d1, .cons b d2 => by
    refine .cons (.d (.tup (.of (ha 0 t (v, w) rfl rfl)) (.cons (dp_mono sm _ a) (.cons (dp_mono sm _ b) .nil)))) (rvAll_putP ts vs ws _ _ B B' sm (by simp at hl; omega) (fun j t' p h1 h2 => ha (j + 1) t' p (by simpa using h1) (by simpa using h2)) d1 d2)
theorem zip_laid {pins : List (Addr × Obj)} {σ : L2.St} {H : Hp} {s : Shared} {h' : Heap} {tk : Nat} {vs ws : List V} {us ts : List Value} {acc : Array Value} {c : Nat} {as : List Addr} {S : Addr} (I : Inv X pins σ H s) (r1 : Vals vs us) (r2 : Vals ws ts) (hz : as.length ≤ sizeLine) (hSl : s.heap.objs.size ≤ S)
    (hk : ∀ b o, s.heap.get? b = some o → h'.get? b = some o) (hS : h'.get? S = some { cls := .type "list", dict := none, data := .seq acc c, slots := #[] }) (hl : as.length = min us.length ts.length) (hG : VZ.ZG us.toArray ts.toArray S h' as) (hacc : acc.toList = as.map Value.ref) :
    H S = none ∧ (∀ t ∈ as, H t = none ∧ t ≠ S) ∧ as.Nodup ∧ Inv X pins σ (upd (putP H as (vs.zip ws)) S (.lst (as.map V.ref))) { s with heap := h', toks := tk } := by
  have nd : as.Nodup := List.Pairwise.imp (fun {a b} (h : a < b) => Nat.ne_of_lt h) hG.rise
  have new : ∀ t ∈ as, H t = none := fun t ht => I.hok.fresh (Nat.le_trans hSl (Nat.le_of_lt (hG.above t ht)))
  have newS : H S = none := I.hok.fresh hSl
  have hSn : S ∉ as := fun z => Nat.lt_irrefl _ (hG.above _ z)
  have off : ∀ b, b ∉ as → b ≠ S → upd (putP H as (vs.zip ws)) S (.lst (as.map V.ref)) b = H b := fun b h1 h2 => by rw [upd_ne h2, putP_off as _ _ h1]
  have low : ∀ b o, s.heap.get? b = some o → b ∉ as ∧ b ≠ S := fun b o e => ⟨fun z => absurd (Heap.lt_size e) (Nat.not_lt.mpr (Nat.le_trans hSl (Nat.le_of_lt (hG.above b z)))), Nat.ne_of_lt (Nat.lt_of_lt_of_le (Heap.lt_size e) hSl)⟩
  have kp : ∀ b u, H b = some u → (upd (putP H as (vs.zip ws)) S (.lst (as.map V.ref))) b = some u := fun b u e => by
    rw [off b (fun z => by rw [new b z] at e; cases e) (fun z => by rw [z, newS] at e; cases e)]
    exact e
  refine ⟨newS, fun t ht => ⟨new t ht, fun e => hSn (e ▸ ht)⟩, nd, ?_⟩
  refine I.call' (ch := []) rfl ⟨fun b o q _ _ _ => hk b o q, fun b o q _ _ _ => ⟨o.slots, hk b o q⟩, fun b o q n _ => ?_, fun b o q _ => ⟨o, hk b o q⟩, fun b xs q => kp b _ q, fun b o u q => kp b _ q, fun b ps q => ⟨#[], by rw [kp b _ q]; simp⟩⟩ (fun b u q => ?_) I.bare fun b z => by simp at z
  · obtain ⟨z1, z2⟩ := low b o q
    rw [off b z1 z2]
    exact n
  · by_cases hb2 : b = S
    · subst hb2
      rw [upd_same] at q
      cases q
      refine ⟨by rw [List.length_map]; omega, acc.toList, c, by rw [hacc]; exact LiI.vals_refs as, ?_⟩
      rw [Array.toArray_toList]
      exact hS
    · by_cases hb : b ∈ as
      · obtain ⟨j, hj⟩ := List.mem_iff_getElem?.mp hb
        obtain ⟨hx, hy, e3⟩ := hG.pairs j b hj
        simp only [List.size_toArray] at hx hy
        have lv := r1.length
        have lw := r2.length
        have hjz : (vs.zip ws)[j]? = some (vs[j]'(by omega), ws[j]'(by omega)) := by
          rw [List.getElem?_eq_getElem (by rw [List.length_zip]; omega), List.getElem_zip]
        rw [upd_ne hb2, putP_at as (vs.zip ws) H j b _ nd hj hjz] at q
        cases q
        obtain ⟨u1, g1, k1⟩ := r1.get (List.getElem?_eq_getElem (by omega : j < vs.length))
        obtain ⟨u2, g2, k2⟩ := r2.get (List.getElem?_eq_getElem (by omega : j < ws.length))
        rw [List.getElem?_eq_getElem hx] at g1
        rw [List.getElem?_eq_getElem hy] at g2
        cases g1; cases g2
        exact ⟨by show 2 ≤ sizeLine; decide, [us[j], ts[j]], .cons k1 (.cons k2 .nil), ⟨_, e3, rfl, _, rfl⟩⟩
      · rw [off b hb hb2] at q
        exact (I.hok b u q).stay (fun d v _ y => hk d v y) (fun d y => kp d _ y) fun d xs y => kp d _ y
theorem ge_listzip {ea eb : Expr} {p1 p2 p3 p4 : Pos} (hc : X.calm = true) (gl : Gl X "list") (ml : X.mg "list" = none) (gz : Gl X "zip") (mz : X.mg "zip" = none) (ha : notStar ea = true) (hb : notStar eb = true)
    (h : GA X [ea, eb] ρ M (fun rs M1 => ∃ xs ys : List D, rs = [.d (.list xs), .d (.list ys)] ∧ xs.length ≤ sizeLine ∧ ∀ a, Φ (.cell a) ((a, Is (rL (zipD xs ys))) :: M1)) Ξ) : GE X (.Call (.Name "list" p1) [.Call (.Name "zip" p3) [ea, eb] [] p4] [] p2) ρ M Φ Ξ := fun B H σ ok env tk => by
  intro pins s I
  have hs : starEach [.Call (.Name "zip" p3) [ea, eb] [] p4] X.env = (false, eval (.Call (.Name "zip" p3) [ea, eb] [] p4) X.env) :: starEach [] X.env := star_cons rfl
  refine wpAny_Call_Name_kw (ld_blt I gl ml (by decide +kernel : bootBuiltins "list" = some (.type "list")) ?_)
  refine PyProof.Rows.callWith_type1 ?_ hs rfl
  rw [hs]
  show wpAny _ _ (spliced ((false, eval (.Call (.Name "zip" p3) [ea, eb] [] p4) X.env) :: backTo p2 (starEach [] X.env))) _ _ s
  refine Calls.spliced_cons ?_
  refine PyProof.Rows.Call_ (ld_blt I gz mz PyProof.Rows.boot_zip (PyProof.Rows.callWith_type1 (thn (args h ok env tk (Q := fun vs H1 => ∃ B1 M1 rs, Ok X.K B1 H1 M1 ∧ Dl.Fr B H M B1 H1 M1 ∧ RvAll X.K B1 vs rs ∧ ∃ xs ys : List D, rs = [.d (.list xs), .d (.list ys)] ∧ xs.length ≤ sizeLine ∧ ∀ a, Φ (.cell a) ((a, Is (rL (zipD xs ys))) :: M1)) (fun vs H1 B1 M1 rs o1 f1 q1 k => ⟨B1, M1, rs, o1, f1, q1, k⟩) p4 pins s I) fun us s1 ⟨vs, H1, I1, r1, B1, M1, rs, o1, f1, q1, xs, ys, e1, hz, k⟩ => ?_) (star_cons ha) (star_any (es := [eb]) (by simp [hb]))))
  subst e1
  obtain ⟨v, w, rfl, qa, qb⟩ := IR.RvAll.two q1
  cases qa with
  | d qa => cases qa with
    | lst sa da => cases qb with
      | d qb => cases qb with
        | lst sb db =>
          rename_i a vs b ws
          cases r1 with
          | cons r rr => cases rr with
            | cons r' rr =>
              cases rr
              cases r
              cases r'
              obtain ⟨its, rv, p1', _⟩ := I1.list (o1.ext.seq sa)
              obtain ⟨its2, rv2, p2', _⟩ := I1.list (o1.ext.seq sb)
              have la := p1'.lt
              have lb := p2'.lt
              have lx : xs.length = its.length := by rw [← DpAll.len da, rv.length]
              refine wpAny_mono (VZ.zl_call (Q := fun v s2 => EP X pins σ (PostE X.K B H M Φ) v s2) (I1.ok.hd hc) p1'.isList p2'.isList la lb (by simp only [List.size_toArray]; omega) fun h' tk acc c as hk hS hl hG hacc => ?_) (fun v s2 z => Calls.spliced_nil z) fun _ _ z => z
              simp only [List.size_toArray] at hl
              obtain ⟨n1, n2, nd, I2⟩ := zip_laid (tk := tk) I1 rv rv2 (by omega) (Nat.le_add_right _ _) hk hS hl hG hacc
              have o2 := ok_putP as (vs.zip ws) B1 H1 M1 o1 nd fun t ht => (n2 t ht).1
              have hS2 : putP H1 as (vs.zip ws) (s1.heap.objs.size + 5) = none := by rw [putP_off as _ _ fun z => (n2 _ z).2 rfl]; exact n1
              have rr := rvAll_putP (K := X.K) as vs ws xs ys B1 (putP B1 as (vs.zip ws)) o2.2.ex (by rw [hl, rv.length, rv2.length]) (fun j t p h1 h2 => putP_at as (vs.zip ws) B1 j t p nd h1 h2) da db
              have o3 := ok_own (P := Is (rL (zipD xs ys))) o2.1 hS2 rr rfl
              exact ⟨.ref _, _, I2, rfl, _, _, _, o3.1, (f1.trans o2.2).trans o3.2, .cell _, k _⟩
end
end VM

set_option Elab.async false
set_option linter.all false
set_option maxRecDepth 100000
set_option maxHeartbeats 4000000
namespace VM
open PySem PySem.Spec PyProof.Rows L2 Dl
open IR (notStar notComp notSlice notSet notTup isTup plainB opC cpC isLst plainT star_cons star_any asg_cons marks_no fold_no swap_no attr_no true_plain plainIx slotR slotW isGl useB ownC cTg cTgs kwNames tgs_star asg_len permC idxOf Lst tyC opC_eq cpC_eq all_star tyC_nm)
section
variable {X : Cx} {c : Cc} {C : Str → List Sl → RC} {k : Nat}
def SoZ (X : Cx) (c : Cc) (C : Str → List Sl → RC) (e : Expr) (va vb : E) : Prop := ∃ ea eb p1 p2, e = .Call (.Name "zip" p1) [ea, eb] [] p2 ∧ useB c.b "zip" = true ∧ notStar ea = true ∧ notStar eb = true ∧ SoE X C ea va ∧ SoE X C eb vb
theorem so_lzip (x : Ctx X c C k) {e : Expr} {p1 p2 : Pos} {va vb : E} (hu : useB c.b "list" = true) (hz : SoZ X c C e va vb) : SoO X C (.Call (.Name "list" p1) [e] [] p2) (.lzip va vb) := fun pins ρE ρ M F Φ Ξ w p => by
  obtain ⟨ea, eb, p3, p4, rfl, huz, na, nb, ha, hb⟩ := hz
  obtain ⟨g1, g2, g3⟩ := IR.useB_of x.b hu
  obtain ⟨z1, z2, z3⟩ := IR.useB_of x.b huz
  rw [eo] at p
  refine ge_listzip x.b.calm g1 g3 z1 z3 na nb (ga_cons (star_cons na) (so_d ha w ((pv_bind p).imp fun u ρ1 q M1 w1 => ?_)))
  refine ga_cons (star_cons nb) (so_d hb w1 ((pv_bind q).imp fun y ρ2 q2 M2 w2 => ga_nil ?_))
  obtain ⟨xs, e1, q3⟩ := pv_optb q2
  obtain ⟨ys, e2, q4⟩ := pv_optb q3
  split at q4
  · rename_i hl
    have f1 : u = .list xs := by cases u <;> first | (cases e1; rfl) | cases e1
    have f2 : y = .list ys := by cases y <;> first | (cases e2; rfl) | cases e2
    subst f1 f2
    exact ⟨xs, ys, rfl, Nat.le_of_lt (by simpa using hl), fun a => q4 a _ w2.new⟩
  · exact q4.elim
structure SoAll (X : Cx) (c : Cc) (C : Str → List Sl → RC) (e : Expr) (r : Cr) : Prop where
  v : SoE X C e r.v
  t : SoT X C e r.t
  i : ∀ tg, itOk (isTup tg) r.i = true → SoI X C tg e r.i
  o : SoO X C e r.o
  z : ∀ a b, r.z = some (a, b) → SoZ X c C e a b
def Snd (C : Str → List Sl → RC) (k : Nat) (e : Expr) : Prop := ∀ X c, Ctx X c C k → SoAll X c C e (cE c e)
theorem snd_stp {e : Expr} (h : cE c e = stp) : SoAll X c C e (cE c e) := by
  rw [h]; exact ⟨so_stop, so_stopT, fun _ _ => so_stopI, so_stopO, fun _ _ z => by cases z⟩
theorem snd_dfl {e : Expr} {v : E} (h : cE c e = dfl v) (hp : plainT e = true) (hv : SoE X C e v) : SoAll X c C e (cE c e) := by
  rw [h]; exact ⟨hv, so_tru hp hv, fun _ _ => so_over hv, so_stopO, fun _ _ z => by cases z⟩
theorem snd_dflO {e : Expr} {o : E} (h : cE c e = dflO o) (hp : plainT e = true) (ho : SoO X C e o) : SoAll X c C e (cE c e) := by
  rw [h]; exact ⟨so_fr ho, so_tru hp (so_fr ho), fun _ _ => so_over (so_fr ho), ho, fun _ _ z => by cases z⟩
theorem snd_dflC {e : Expr} {v : E} (h : cE c e = dflC v) (hp : plainT e = true) (hv : SoE X C e v ∧ SoO X C e v) : SoAll X c C e (cE c e) := by
  rw [h]; exact ⟨hv.1, so_tru hp hv.1, fun _ _ => so_over hv.1, hv.2, fun _ _ z => by cases z⟩
theorem snd_mk {e : Expr} {v t i : E} {z : Option (E × E)} (h : cE c e = ⟨v, t, i, .stop, z⟩) (hv : SoE X C e v) (ht : SoT X C e t) (hi : ∀ tg, itOk (isTup tg) i = true → SoI X C tg e i) (hz : ∀ a b, z = some (a, b) → SoZ X c C e a b := by intros _ _ z; cases z) : SoAll X c C e (cE c e) := by
  rw [h]; exact ⟨hv, ht, hi, so_stopO, hz⟩
theorem snd_n (C : Str → List Sl → RC) (k : Nat) : ∀ n e, sizeOf e < n → Snd C k e := by
  intro n
  induction n with
  | zero => intro e h; omega
  | succ n ih =>
    intro e hlt X c x
    have lst : ∀ (es : List Expr), sizeOf es < n → ∀ e ∈ es, SoAll X c C e (cE c e) := fun es hl e he => by
      have := List.sizeOf_lt_of_mem he
      exact ih e (by omega) X c x
    cases e with
    | Constant v j p =>
      cases v with
      | int i => exact snd_dfl rfl rfl so_int
      | bool i => exact snd_dfl rfl rfl so_bl
      | none => exact snd_dfl rfl rfl so_non
      | str i => exact snd_dfl rfl rfl so_str
      | _ => exact snd_stp rfl
    | Name n p => exact snd_dfl rfl rfl (so_name x)
    | BinOp a o b p =>
      simp at hlt
      have qa := (ih a (by omega) X c x).v
      have qb := (ih b (by omega) X c x).v
      cases ho : opC o with
      | none => exact snd_stp (by cases a <;> (simp only [cE, ho]))
      | some o' =>
        cases opC_eq ho
        by_cases hm : ∃ es p1, a = .List es p1 ∧ (isMul o' && es.all notStar) = true
        · obtain ⟨es, p1, rfl, hm⟩ := hm
          simp at hlt
          have hm2 := hm
          rw [Bool.and_eq_true] at hm2
          have e1 : o' = .mul := by cases o' <;> first | rfl | cases hm2.1
          subst e1
          exact snd_dflO (by simp only [cE, ho, hm]; rfl) rfl (so_rep x hm2.2 (fun e he => (lst es (by omega) e he).v) qb)
        · refine snd_dfl (v := .bin o' (cE c a).v (cE c b).v) ?_ rfl (so_bin x qa qb)
          cases a with
          | List es p1 =>
            have hf : (isMul o' && es.all notStar) = false := by
              cases hh : (isMul o' && es.all notStar) with
              | false => rfl
              | true => exact absurd ⟨es, p1, rfl, hh⟩ hm
            simp only [cE, ho, hf]; rfl
          | _ => simp only [cE, ho]
    | UnaryOp o a p =>
      simp at hlt
      have q := ih a (by omega) X c x
      cases o with
      | Not => exact snd_mk rfl (so_not q.v) (so_notT q.t) (fun _ _ => so_stopI)
      | USub => exact snd_dfl rfl rfl (so_neg q.v)
      | _ => exact snd_stp rfl
    | Compare a ops bs p =>
      simp at hlt
      rcases ops with _ | ⟨o, _ | ⟨o2, _ | ⟨o3, ops⟩⟩⟩
      · exact snd_stp (by cases bs <;> rfl)
      · rcases bs with _ | ⟨b, _ | ⟨b2, bs⟩⟩
        · exact snd_stp rfl
        · simp at hlt
          have hc : cE c (.Compare a [o] [b] p) = (match cpC o with
            | some o => if notSet b then dfl (.cmp o (cE c a).v (cE c b).v) else stp
            | none => stp) := rfl
          cases ho : cpC o with
          | none => exact snd_stp (by rw [hc, ho])
          | some o' =>
            cases cpC_eq ho
            cases hs : notSet b with
            | false => exact snd_stp (by rw [hc, ho]; simp only [hs]; rfl)
            | true =>
              have qa := (ih a (by omega) X c x).v
              have qb := (ih b (by omega) X c x).v
              exact snd_mk (v := .cmp o' (cE c a).v (cE c b).v) (t := .tru _) (i := .over _) (by rw [hc, ho]; simp only [hs]; rfl) (so_cmp x hs qa qb) (so_cmpT x hs qa qb) fun _ _ => so_over (so_cmp x hs qa qb)
        · exact snd_stp rfl
      · rcases bs with _ | ⟨b, _ | ⟨b2, _ | ⟨b3, bs⟩⟩⟩
        · exact snd_stp rfl
        · exact snd_stp rfl
        · simp at hlt
          have hc : cE c (.Compare a [o, o2] [b, b2] p) = (match cpC o, cpC o2 with
            | some o, some p => if notSet b2 then dfl (.chain o p (cE c a).v (cE c b).v (cE c b2).v) else stp
            | _, _ => stp) := rfl
          cases ho : cpC o with
          | none => exact snd_stp (by rw [hc, ho])
          | some o' =>
            cases ho2 : cpC o2 with
            | none => exact snd_stp (by rw [hc, ho, ho2])
            | some o2' =>
              cases cpC_eq ho
              cases cpC_eq ho2
              cases hs : notSet b2 with
              | false => exact snd_stp (by rw [hc, ho, ho2]; simp only [hs]; rfl)
              | true =>
                have qa := (ih a (by omega) X c x).v
                have qb := (ih b (by omega) X c x).v
                have qd := (ih b2 (by omega) X c x).v
                exact snd_mk (v := .chain o' o2' (cE c a).v (cE c b).v (cE c b2).v) (t := .tru _) (i := .over _) (by rw [hc, ho, ho2]; simp only [hs]; rfl) (so_chain x hs qa qb qd) (so_chainT x hs qa qb qd) fun _ _ => so_over (so_chain x hs qa qb qd)
        · exact snd_stp rfl
      · exact snd_stp (by rcases bs with _ | ⟨b, _ | ⟨b2, _ | ⟨b3, bs⟩⟩⟩ <;> rfl)
    | BoolOp o es p =>
      simp at hlt
      have q := lst es (by omega)
      cases o with
      | And => exact snd_mk rfl (so_and x es fun e he => (q e he).v) (fun pins ρE ρ M F Ψ Ξ w p => gt_w (so_andW x es (fun e he => (q e he).t) pins ρE ρ M F Ψ Ξ w p)) fun _ _ => so_stopI
      | Or => exact snd_mk rfl (so_or x es fun e he => (q e he).v) (fun pins ρE ρ M F Ψ Ξ w p => gt_w (so_orW x es (fun e he => (q e he).t) pins ρE ρ M F Ψ Ξ w p)) fun _ _ => so_stopI
    | IfExp t a b p =>
      simp at hlt
      have v := so_ite (pos := p) (ih t (by omega) X c x).t (ih a (by omega) X c x).v (ih b (by omega) X c x).v
      exact snd_mk rfl v so_stopT fun _ _ => so_over v
    | Tuple es kk p =>
      simp at hlt
      cases hn : es.all notStar with
      | false => exact snd_stp (by rw [cE, hn]; rfl)
      | true =>
        have v := so_tup x (kk := kk) (pos := p) hn fun e he => (lst es (by omega) e he).v
        exact snd_mk (by rw [cE, hn]; rfl) v so_stopT (fun _ _ => so_over v)
    | List es p =>
      simp at hlt
      cases hn : es.all notStar with
      | false => exact snd_stp (by rw [cE, hn]; rfl)
      | true => exact snd_dflO (by rw [cE, hn]; rfl) rfl (so_lst x (pos := p) hn fun e he => (lst es (by omega) e he).v)
    | Subscript a b p =>
      simp at hlt
      have qa := (ih a (by omega) X c x).v
      have gen : notSlice b = true → cE c (.Subscript a b p) = (if notSlice b && notTup b then dfl (.ix (cE c a).v (cE c b).v) else stp) → SoAll X c C (.Subscript a b p) (cE c (.Subscript a b p)) := fun h1 h2 => by
        cases ht : notTup b with
        | false => exact snd_stp (by rw [h2, ht, Bool.and_false]; rfl)
        | true => exact snd_dfl (by rw [h2, h1, ht]; rfl) rfl (so_ix h1 qa (ih b (by omega) X c x).v)
      cases b with
      | Slice lo hi st p2 =>
        cases st with
        | none =>
          simp at hlt
          refine snd_dflO rfl rfl (so_slice x qa (fun e he => ?_) fun e he => ?_)
          · subst he; simp at hlt; exact (ih e (by omega) X c x).v
          · subst he; simp at hlt; exact (ih e (by omega) X c x).v
        | some s => exact snd_stp rfl
      | _ => exact gen rfl rfl
    | Call f args kws p =>
      simp at hlt
      cases f with
      | Attribute o at' p1 =>
        simp at hlt
        have hc : cE c (.Call (.Attribute o at' p1) args kws p) = attrC at' o p1 args kws p (cE c o).v (cEs c args) := rfl
        rcases args with _ | ⟨e, _ | ⟨e2, es⟩⟩
        · exact snd_stp (by rw [hc]; rfl)
        · cases kws with
          | nil =>
            simp at hlt
            have hc2 : attrC at' o p1 [e] [] p (cE c o).v (cEs c [e]) = if at' == ("append" : Str) && plainB o && notStar e && (p1.endLine == p.line) then ⟨.app (cE c o).v (cE c e).v, .stop, .stop, .stop, none⟩ else stp := rfl
            cases hh : (at' == ("append" : Str) && plainB o && notStar e && (p1.endLine == p.line)) with
            | false => exact snd_stp (by rw [hc, hc2, hh]; rfl)
            | true =>
              have hh' := hh
              simp only [Bool.and_eq_true] at hh'
              obtain ⟨⟨⟨h1, h2⟩, h3⟩, h4⟩ := hh'
              have h1 : at' = "append" := by simpa using h1
              subst h1
              exact snd_mk (by rw [hc, hc2, hh]; rfl) (so_app h2 h3 h4 (ih o (by omega) X c x).v (ih e (by omega) X c x).v) so_stopT fun _ _ => so_stopI
          | cons k ks => exact snd_stp (by rw [hc]; rfl)
        · exact snd_stp (by rw [hc]; rfl)
      | Name f p1 =>
        have hc : cE c (.Call (.Name f p1) args kws p) = callC c f args kws (cEs c args) (cZs c args) (cKs c kws) := rfl
        have qs := lst args (by omega)
        cases hg : isGl c.b f with
        | false => exact snd_stp (by rw [hc]; unfold callC; rw [hg]; rfl)
        | true =>
          cases args with
          | nil =>
            cases kws with
            | nil => exact snd_stp (by rw [hc]; unfold callC; rw [hg]; rfl)
            | cons kw ks =>
              have hc2 : callC c f [] (kw :: ks) (cEs c []) (cZs c []) (cKs c (kw :: ks)) = (match c.fns.lookup f, kwNames (kw :: ks) with
                | some (ps, ords, _), some ns => if ords.contains ns then dflC (.callk f (cKs c (kw :: ks)) (permC ns ps)) else stp
                | _, _ => stp) := by unfold callC; rw [hg]; rfl
              cases hf : c.fns.lookup f with
              | none => exact snd_stp (by rw [hc, hc2, hf])
              | some pp =>
                obtain ⟨ps, ords, mus⟩ := pp
                cases hk : kwNames (kw :: ks) with
                | none => exact snd_stp (by rw [hc, hc2, hf, hk])
                | some ns =>
                  cases ho : ords.contains ns with
                  | false => exact snd_stp (by rw [hc, hc2, hf, hk]; simp only [ho]; rfl)
                  | true =>
                    have sub : ∀ a ∈ kw :: ks, SoE X C a.value (cE c a.value).v := fun a ha => by
                      have h1 := List.sizeOf_lt_of_mem ha
                      have h2 : sizeOf a.value < sizeOf a := by cases a; simp; omega
                      exact (ih a.value (by omega) X c x).v
                    exact snd_dflC (by rw [hc, hc2, hf, hk]; simp only [ho]; rfl) rfl (so_callkE x hg hf hk ho sub)
          | cons e es =>
            cases kws with
            | cons kw ks => exact snd_stp (by rw [hc]; unfold callC; rw [hg]; rfl)
            | nil =>
              have hc2 : callC c f (e :: es) [] (cEs c (e :: es)) (cZs c (e :: es)) (cKs c []) = if (e :: es).all notStar then (match c.fns.lookup f with
                | some _ => dflC (.call f ((cE c e).v :: cEs c es))
                | none => if c.b.bts.contains f then bltC c f es (cE c e).v (cE c e).z (cEs c es) else stp) else stp := by unfold callC; rw [hg]; rfl
              cases hn : (e :: es).all notStar with
              | false => exact snd_stp (by rw [hc, hc2, hn]; rfl)
              | true =>
                cases hf : c.fns.lookup f with
                | some pp =>
                  obtain ⟨ps, ords, mus⟩ := pp
                  exact snd_dflC (by rw [hc, hc2, hn, hf]; rfl) rfl (so_callE x hg hf hn fun a ha => (qs a ha).v)
                | none =>
                  cases hb : c.b.bts.contains f with
                  | false => exact snd_stp (by rw [hc, hc2, hn, hf, hb]; rfl)
                  | true =>
                    have hc3 : cE c (.Call (.Name f p1) (e :: es) [] p) = bltC c f es (cE c e).v (cE c e).z (cEs c es) := by rw [hc, hc2, hn, hf, hb]; rfl
                    have hu : useB c.b f = true := by unfold IR.useB; rw [hg, hb]; rfl
                    have hne : notStar e = true := all_star hn e (by simp)
                    have qe := qs e (by simp)
                    by_cases f1 : f = "isinstance"
                    · subst f1
                      have hc4 : bltC c "isinstance" es (cE c e).v (cE c e).z (cEs c es) = isiC c es (cE c e).v := rfl
                      rcases es with _ | ⟨t, _ | ⟨t2, es⟩⟩
                      · exact snd_stp (by rw [hc3]; rfl)
                      · cases t with
                        | Name tn tp =>
                          have hc5 : isiC c [.Name tn tp] (cE c e).v = (match tyC tn with
                            | some t => if useB c.b t.nm then dfl (.isi (cE c e).v t) else stp
                            | none => stp) := rfl
                          cases ht : tyC tn with
                          | none => exact snd_stp (by rw [hc3, hc4, hc5, ht])
                          | some t =>
                            cases hut : useB c.b t.nm with
                            | false => exact snd_stp (by rw [hc3, hc4, hc5, ht]; simp only [hut]; rfl)
                            | true =>
                              have e1 := tyC_nm ht
                              subst e1
                              exact snd_dfl (by rw [hc3, hc4, hc5, ht]; simp only [hut]; rfl) rfl (so_isi x hu hut hne qe.v)
                        | _ => exact snd_stp (by rw [hc3]; rfl)
                      · exact snd_stp (by rw [hc3, hc4]; cases t <;> rfl)
                    · by_cases f2 : f = "range"
                      · subst f2
                        rcases es with _ | ⟨b, _ | ⟨b2, es⟩⟩
                        · exact snd_mk (by rw [hc3]; rfl) so_stop so_stopT fun tg _ => so_rng1 x hu hne qe.v
                        · exact snd_mk (by rw [hc3]; rfl) so_stop so_stopT fun tg _ => so_rng2 x hu hne (all_star hn b (by simp)) qe.v (qs b (by simp)).v
                        · rcases es with _ | ⟨b3, es⟩
                          · exact snd_mk (by rw [hc3]; rfl) so_stop so_stopT fun tg _ => so_rng3 x hu hne (all_star hn b (by simp)) (all_star hn b2 (by simp)) qe.v (qs b (by simp)).v (qs b2 (by simp)).v
                          · exact snd_stp (by rw [hc3]; rfl)
                      · by_cases f3 : f = "enumerate"
                        · subst f3
                          rcases es with _ | ⟨b, es⟩
                          · refine snd_mk (i := .enum (cE c e).v none) (by rw [hc3]; rfl) so_stop so_stopT fun tg ht => ?_
                            cases tg with
                            | Tuple ts kk tp => exact so_enum x hu hne qe.v
                            | _ => cases ht
                          · exact snd_stp (by rw [hc3]; rfl)
                        · by_cases f4 : f = "zip"
                          · subst f4
                            rcases es with _ | ⟨b, _ | ⟨b2, es⟩⟩
                            · exact snd_stp (by rw [hc3]; rfl)
                            · have qb := qs b (by simp)
                              have hnb := all_star hn b (by simp)
                              refine snd_mk (i := .zip (cE c e).v (cE c b).v) (z := some ((cE c e).v, (cE c b).v)) (by rw [hc3]; rfl) so_stop so_stopT (fun tg ht => ?_) fun a' b' hz => ?_
                              · cases tg with
                                | Tuple ts kk tp => exact so_zip x hu hne hnb qe.v qb.v
                                | _ => cases ht
                              · cases hz
                                exact ⟨e, b, p1, p, rfl, hu, hne, hnb, qe.v, qb.v⟩
                            · exact snd_stp (by rw [hc3]; rfl)
                          · by_cases f5 : f = "list"
                            · subst f5
                              rcases es with _ | ⟨b, es⟩
                              · have hc4 : bltC c "list" [] (cE c e).v (cE c e).z (cEs c []) = (match (cE c e).z with
                                  | some (a, b) => dflO (.lzip a b)
                                  | none => dflO (.lof (cE c e).v)) := rfl
                                cases hz : (cE c e).z with
                                | none => exact snd_dflO (by rw [hc3, hc4, hz]) rfl (so_lof x hu hne qe.v)
                                | some ab =>
                                  obtain ⟨a', b'⟩ := ab
                                  exact snd_dflO (by rw [hc3, hc4, hz]) rfl (so_lzip x hu (qe.z a' b' hz))
                              · exact snd_stp (by rw [hc3]; rfl)
                            · have hc4 : bltC c f es (cE c e).v (cE c e).z (cEs c es) = (match biC f with
                                | some b => dfl (.bi b ((cE c e).v :: cEs c es))
                                | none => stp) := by
                                unfold bltC
                                rw [if_neg (by simpa using f1), if_neg (by simpa using f2), if_neg (by simpa using f3), if_neg (by simpa using f4), if_neg (by simpa using f5)]
                                all_goals (cases biC f <;> rfl)
                              cases hbi : biC f with
                              | none => exact snd_stp (by rw [hc3, hc4, hbi])
                              | some b => exact snd_dfl (by rw [hc3, hc4, hbi]) rfl (so_bi x hu hbi hn fun a ha => (qs a ha).v)
      | _ => exact snd_stp rfl
    | ListComp elt gs scope p =>
      rcases gs with _ | ⟨⟨tg, it, ifs, asy⟩, _ | ⟨g2, gs⟩⟩
      · exact snd_stp rfl
      · by_cases ha : asy = 0
        · subst ha
          simp at hlt
          have hc : cE c (.ListComp elt [⟨tg, it, ifs, 0⟩] scope p) = lcC c scope tg it ifs (cE c it).i (cTs (blkOf c scope) ifs) (cE (blkOf c scope) elt).v := rfl
          cases ht : cTg (blkOf c scope).b tg with
          | none => exact snd_stp (by rw [hc, lcC, ht])
          | some t =>
            cases hh : (blkC c.b.N c.b.sc scope (ownC c.b scope) && !(ownC c.b scope).isEmpty && notSet it && decide (ifs.length ≤ 1) && itOk (isTup tg) (cE c it).i && (tgS t).all (fun j => ((ownC c.b scope).map (·.2)).contains j)) with
            | false => exact snd_stp (by rw [hc, lcC, ht]; simp only [hh]; rfl)
            | true =>
              have hh' := hh
              simp only [Bool.and_eq_true, decide_eq_true_eq, Bool.not_eq_true'] at hh'
              obtain ⟨⟨⟨⟨⟨h1, h2⟩, h3⟩, h4⟩, h5⟩, h6⟩ := hh'
              have b := x.block scope
              have h7 : ∀ j ∈ tgS t, j ∈ (ownC c.b scope).map (·.2) := fun j hj => by
                have := List.all_eq_true.mp h6 j hj
                simpa using this
              have v := so_lc x (pos := p) (elt := elt) (ve := (cE (blkOf c scope) elt).v) h1 h2 h3 h4 h7 ((ih it (by omega) X c x).i tg h5) (fun s H Cc cl fp => so_tg (b s H Cc cl fp) tg t ht)
                (fun e he s H Cc cl fp => by
                  have := List.sizeOf_lt_of_mem he
                  exact (ih e (by omega) _ _ (b s H Cc cl fp)).t) (fun s H Cc cl fp => (ih elt (by omega) _ _ (b s H Cc cl fp)).v)
              exact snd_dflO (by rw [hc, lcC, ht]; simp only [hh]; rfl) rfl v
        · refine snd_stp ?_
          cases asy with
          | ofNat n => cases n with
            | zero => exact absurd rfl ha
            | succ n => rfl
          | negSucc n => rfl
      · refine snd_stp ?_
        cases asy with
        | ofNat n => cases n <;> rfl
        | negSucc n => rfl
    | _ => exact snd_stp rfl
theorem snd (C : Str → List Sl → RC) (k : Nat) (e : Expr) : Snd C k e := snd_n C k (sizeOf e + 1) e (by omega)
end
end VM

set_option Elab.async false
set_option linter.all false
set_option maxRecDepth 100000
set_option maxHeartbeats 4000000
namespace VM
open PySem PySem.Spec PyProof.Rows L2 Dl
open IR (notStar notComp notSlice notSet notTup isTup plainB opC cpC isLst plainT star_cons star_any asg_cons marks_no fold_no swap_no attr_no true_plain plainIx slotR slotW isGl useB ownC cTg cTgs kwNames tgs_star asg_len permC idxOf Lst tyC opC_eq cpC_eq all_star tyC_nm nameE nmOf swapNo swapNs swapOk var_of sole_eq nameE_of)
section
variable {X : Cx} {c : Cc} {C : Str → List Sl → RC} {k : Nat}
def PS (mg : Mg) (pins : List Addr) (F : Mem) (r : RS) (D : DE) : Prop :=
  match r with
  | .next ρE' => ∀ ρ' M', VOk pins ρE' ρ' M' F → D.nx ρ' M'
  | .ret d ρE' => ∀ ρ' M', VOk pins ρE' ρ' M' F → D.rt (.d d) M'
  | .reto xs ρE' => ∀ ρ' a M', VOk pins ρE' ρ' M' ((a, Is (rL xs)) :: F) → D.rt (.cell a) M'
  | .brk ρE' => ∀ ρ' M', VOk pins ρE' ρ' M' F → D.bk ρ' M'
  | .cont ρE' => ∀ ρ' M', VOk pins ρE' ρ' M' F → D.ct ρ' M'
  | .err x ρE' => ∀ e ρ' M', XRel mg x e → VOk pins ρE' ρ' M' F → D.xx e ρ' M'
  | .bad => False
theorem ps_bind {α : Type} {mg : Mg} {pins : List Addr} {ρ : List Rv} {F : Mem} {r : R α} {f : α → Ev → RS} {D : DE} (p : PS mg pins F (r.bindS f) D) : PV mg pins ρ F r (fun a ρE' => PS mg pins F (f a ρE') D) D.xx := by
  cases r with
  | ok a ρE' => exact p
  | err x ρE' => exact fun e M' q w => p e ρ M' q w
  | bad => exact p
def SoS (X : Cx) (C : Str → List Sl → RC) (st : Stmt) (s : S) : Prop := ∀ pins ρE ρ M F (D : DE), VOk pins ρE ρ M F → PS X.mg pins F (ex C s ρE) D → GS X st ρ M D
def SoSs (X : Cx) (C : Str → List Sl → RC) (st : List Stmt) (s : List S) : Prop := ∀ pins ρE ρ M F (D : DE), VOk pins ρE ρ M F → PS X.mg pins F (exs C s ρE) D → GSs X st ρ M D
theorem so_sstop {st : Stmt} : SoS X C st .stop := fun _ _ _ _ _ _ _ p => False.elim p
theorem setE_eq {ρ ρ' : Ev} {i : Nat} {s : Sl} (h : setE ρ i s = some ρ') : ρ' = ρ.set i s := by
  unfold setE at h
  exact (Option.some.inj h).symm
theorem so_set (x : Ctx X c C k) (hb : c.b.blk = false) {n : Str} {i : Nat} {e : Expr} {v : E} {py p : Pos} (hi : slotW c.b n = some i) (hn : notComp e = true) (he : SoE X C e v) : SoS X C (.Assign [.Name n py] e p) (.set i v) := fun pins ρE ρ M F D w p => by
  rw [ex] at p
  refine gs_set (var_of x.b hb hi) x.b.nd (swap_no hn) (so_d he w ((ps_bind p).imp fun d ρ1 q M1 w1 => ?_))
  split at q
  · rename_i ρ2 hs
    cases setE_eq hs
    exact q _ M1 (w1.setv i d)
  · exact q.elim
theorem so_seto (x : Ctx X c C k) (hb : c.b.blk = false) {n : Str} {i : Nat} {e : Expr} {v : E} {py p : Pos} (hi : slotW c.b n = some i) (hn : notComp e = true) (he : SoO X C e v) : SoS X C (.Assign [.Name n py] e p) (.seto i v) := fun pins ρE ρ M F D w p => by
  rw [ex] at p
  refine gs_set (var_of x.b hb hi) x.b.nd (swap_no hn) (he pins ρE ρ M F _ _ w ((ps_bind p).imp fun xs ρ1 q a M1 w1 => ?_))
  split at q
  · rename_i ρ2 hs
    cases setE_eq hs
    exact q _ M1 (w1.seto i)
  · exact q.elim
/-! a comprehension that a name gets -/
theorem gs_frzAt {st : Stmt} {ρ : List Rv} {M : Mem} {D : DE} (h : GS X st ρ M { D with nx := fun ρ1 M1 => D.nx ρ1 M1 ∨ ∃ i a ds Ma Mb, ρ1[i]? = some (.cell a) ∧ M1 = Ma ++ (a, Is (rL ds)) :: Mb ∧ D.nx (ρ1.set i (.d (.list ds))) (Ma ++ Mb) }) : GS X st ρ M D := fun B H σ ok env tk => by
  refine sS_mono (h B H σ ok env tk) ⟨fun σ' H1 => ?_, fun _ _ z => z, fun _ _ z => z, fun _ _ z => z⟩
  rintro ⟨B1, M1, ρ1, o1, f1, e1, z⟩
  rcases z with k | ⟨i, a, ds, Ma, Mb, hi, e, k⟩
  · exact ⟨B1, M1, ρ1, o1, f1, e1, k⟩
  · subst e
    obtain ⟨xs, rs, hx, hP, o2, f2⟩ := ok_freeze o1
    have e : rs = rL ds := hP
    subst e
    obtain ⟨v, hv, hr⟩ := env_get i e1 hi rfl
    cases hr
    have q := env_set (B := upd B1 a (.lst xs)) (.some (v := .ref a) (.d (.lst (.of upd_same) (dpAll_mono f2.ex _ hx.data)))) i (env_mono f2.ex e1)
    rw [set_same hv] at q
    exact ⟨_, _, _, o2, f1.trans f2, q, k⟩
theorem so_setLc (x : Ctx X c C k) (hb : c.b.blk = false) {n : Str} {i : Nat} {scope : Scope} {tg it elt : Expr} {ifs : List Expr} {t : Tg} {vit ve : E} {pos py p : Pos} (hi : slotW c.b n = some i) (h1 : c.b.sc.kind = .function) (h2 : c.b.sc.names.lookup n = some .local) (h3 : (py.line == pos.line) = true)
    (h4 : (scope.names.any fun (m, k) => m == n && (k == .local || k == .cell)) = false) (hk : blkC c.b.N c.b.sc scope (ownC c.b scope) = true) (ho : (ownC c.b scope).isEmpty = false) (hs : notSet it = true) (hl : ifs.length ≤ 1) (ht : ∀ j ∈ tgS t, j ∈ (ownC c.b scope).map (·.2))
    (hit : SoI X C tg it vit) (hg : AllB X scope fun X1 => SoG X1 (blkOf c scope).b.vs tg t) (hif : ∀ e ∈ ifs, AllB X scope fun X1 => SoT X1 C e (cE (blkOf c scope) e).t) (he : AllB X scope fun X1 => SoE X1 C elt ve) :
    ∀ pins ρE ρ M F (D : DE), VOk pins ρE ρ M F → PV X.mg pins ρ F (eo C (.lc t vit (cTs (blkOf c scope) ifs) ve ((ownC c.b scope).map (·.2))) ρE) (QO pins ρ F fun r M1 => D.nx (ρ.set i r) M1) D.xx → GS X (.Assign [.Name n py] (.ListComp elt [⟨tg, it, ifs, 0⟩] scope pos) p) ρ M D := fun pins ρE ρ M F D w p => by
  rw [eo] at p
  have hown : ownC c.b scope ≠ [] := by
    intro e; rw [e] at ho; cases ho
  refine IR.gs_lcW (ownC c.b scope) (F := Own _) (.inr rfl) hown (var_of x.b hb hi) x.b.calm x.b.nd (by rw [x.b.sc]; exact h2) (sw_true (by rw [x.b.sc]; exact h1) (by rw [x.b.sc]; exact h2) h3 h4) (by rw [x.b.hN, x.b.sc]; exact blkOk_by hk) (fold_no hs _) ?_
  refine hit pins ρE ρ M F _ _ w ((pv_bind p).imp fun ds ρ1 q rs S M1 du hS w1 => ?_)
  split at q
  · rename_i hpl
    refine comp_run (vs := (ownC c.b scope).map (·.2)) hS w1.1 hpl ht hg ?_ he ds [] rs _ M1 du ((w1.wipe _).sw (by rw [wipeR_len]) fun j => ?_) (fun j hj hl => wipeE_at (by rwa [wipeE_len] at hl) hj) q
    · intro s H Cc cl fp pins ρE ρ M F Ψ w p
      match ifs, hl, hif, p with
      | [], _, _, p => rw [cTs, tvL] at p; exact p M w
      | [e], _, hi, p =>
        rw [cTs, cTs, tvL] at p
        exact hi e (by simp) s H Cc cl fp pins ρE ρ M F Ψ X0 w p
      | _ :: _ :: _, hl, _, _ => simp at hl
    · by_cases hj : j ∈ (ownC c.b scope).map (·.2)
      · by_cases hl : j < ρ1.length
        · exact .inr (wipeE_at hl hj)
        · have := w1.1.len
          exact .inl (by rw [List.getElem?_eq_none (by omega), List.getElem?_eq_none (by rw [wipeR_len]; omega)])
      · exact .inl (wipeR_out hj).symm
  · exact q.elim
theorem so_setOS {st : Stmt} {i : Nat} {o : E} (h : ∀ pins ρE ρ M F (D : DE), VOk pins ρE ρ M F → PV X.mg pins ρ F (eo C o ρE) (QO pins ρ F fun r M1 => D.nx (ρ.set i r) M1) D.xx → GS X st ρ M D) : SoS X C st (.seto i o) ∧ SoS X C st (.set i (.fr o)) := by
  refine ⟨fun pins ρE ρ M F D w p => ?_, fun pins ρE ρ M F D w p => ?_⟩
  · rw [ex] at p
    refine h pins ρE ρ M F D w ((ps_bind p).imp fun xs ρ1 q a M1 w1 => ?_)
    split at q
    · rename_i ρ2 hs
      cases setE_eq hs
      exact q _ M1 (w1.seto i)
    · exact q.elim
  · rw [ex] at p
    refine gs_frzAt (h pins ρE ρ M F _ w ?_)
    have p := ps_bind (ρ := ρ) p
    unfold ed at p
    rw [ev] at p
    have p := pv_bind (pv_bind p)
    refine p.imp fun xs ρ1 q a M1 w1 => ?_
    have q : PS X.mg pins F (match setE ρ1 i (.v (.list xs)) with | some ρ2 => .next ρ2 | none => .bad) D := q
    split at q
    · rename_i ρ2 hs
      cases setE_eq hs
      by_cases hl : i < ρ.length
      · obtain ⟨Ma, Mb, e1, w2⟩ := w1.out
        refine .inr ⟨i, a, xs, Ma, Mb, by rw [List.getElem?_set_self hl], e1, ?_⟩
        rw [List.set_set]
        exact q _ _ (w2.setv i _)
      · refine .inl ?_
        have hl2 : ρ1.length ≤ i := by rw [w1.1.len]; omega
        rw [List.set_eq_of_length_le (by omega)]
        refine q _ _ ?_
        rw [List.set_eq_of_length_le hl2]
        exact w1.drop1
    · exact q.elim
/-! several at once -/
inductive SlR : List Sl → List Rv → Mem → Prop
  | nil : SlR [] [] []
  | v {ss : List Sl} {rs : List Rv} {N : Mem} (d : D) : SlR ss rs N → SlR (.v d :: ss) (.d d :: rs) N
  | ow {ss : List Sl} {rs : List Rv} {N : Mem} (xs : List D) (a : Addr) : SlR ss rs N → SlR (.ow xs :: ss) (.cell a :: rs) ((a, Is (rL xs)) :: N)
def setR : List Nat → List Rv → List Rv → List Rv
  | i :: is, r :: rs, ρ => setR is rs (ρ.set i r)
  | _, _, ρ => ρ
theorem setAll_ok {pins : List Addr} : ∀ {is : List Nat} {ss : List Sl} {rs : List Rv} {N : Mem} {ρE ρE' : Ev} {ρ : List Rv} {M F : Mem}, SlR ss rs N → VOk pins ρE ρ M (N ++ F) → setAll is ss ρE = some ρE' → VOk pins ρE' (setR is rs ρ) M F
  | [], _, _, _, _, _, _, _, _, .nil, w, h => by simp [setAll] at h; subst h; exact w
  | [], _, _, _, _, _, _, _, _, .v _ _, w, h => by simp [setAll] at h
  | [], _, _, _, _, _, _, _, _, .ow _ _ _, w, h => by simp [setAll] at h
  | i :: is, _, _, _, _, _, _, _, _, .nil, w, h => by simp [setAll] at h
  | i :: is, _, _, _, _, _, _, _, _, .v d t, w, h => by
    rw [setAll] at h
    split at h
    · rename_i ρ1 e1
      cases setE_eq e1
      have := setAll_ok (is := is) t (w.setv i d) h
      exact this
    · cases h
  | i :: is, _, _, _, _, _, _, _, _, .ow xs a t, w, h => by
    rw [setAll] at h
    split at h
    · rename_i ρ1 e1
      cases setE_eq e1
      have := setAll_ok (is := is) t (VOk.seto w i) h
      exact this
    · cases h
/-- what stands for values and new lists -/
def SoP (X : Cx) (C : Str → List Sl → RC) : List Expr → List (Bool × E) → Prop
  | [], [] => True
  | e :: es, (b, v) :: vs => (match b with | true => SoO X C e v | false => SoE X C e v) ∧ SoP X C es vs
  | _, _ => False
theorem so_argsS : ∀ (es : List Expr) (vs : List (Bool × E)), es.all notStar = true → SoP X C es vs → ∀ pins ρE ρ M F (Ψ : List Rv → Mem → Prop) (Ξ : Xi), VOk pins ρE ρ M F → PV X.mg pins ρ F (esl C vs ρE) (fun ss ρE' => ∀ rs M' N, SlR ss rs N → VOk pins ρE' ρ M' (N ++ F) → Ψ rs M') Ξ → GA X es ρ M Ψ Ξ
  | [], [], _, _, pins, ρE, ρ, M, F, Ψ, Ξ, w, p => by rw [esl] at p; exact ga_nil (p [] M [] .nil w)
  | [], _ :: _, _, h, _, _, _, _, _, _, _, _, _ => h.elim
  | _ :: _, [], _, h, _, _, _, _, _, _, _, _, _ => h.elim
  | e :: es, (false, v) :: vs, hn, h, pins, ρE, ρ, M, F, Ψ, Ξ, w, p => by
    rw [List.all_cons, Bool.and_eq_true] at hn
    rw [esl] at p
    refine ga_cons (star_cons hn.1) (so_d h.1 w ((pv_bind p).imp fun d ρ1 q M1 w1 => ?_))
    refine so_argsS es vs hn.2 h.2 pins ρ1 ρ M1 F _ Ξ w1 ((pv_bind q).imp fun ss ρ2 q2 rs M2 N sl w2 => ?_)
    exact q2 _ M2 N (.v d sl) w2
  | e :: es, (true, v) :: vs, hn, h, pins, ρE, ρ, M, F, Ψ, Ξ, w, p => by
    rw [List.all_cons, Bool.and_eq_true] at hn
    rw [esl] at p
    refine ga_cons (star_cons hn.1) (h.1 pins ρE ρ M F _ Ξ w ((pv_bind p).imp fun xs ρ1 q a M1 w1 => ?_))
    refine so_argsS es vs hn.2 h.2 pins ρ1 ρ M1 _ _ Ξ w1 ?_
    have q := pv_bind q
    cases hv : esl C vs ρ1 with
    | bad => rw [hv] at q; exact q.elim
    | err z ρ2 => rw [hv] at q; exact fun e' M' hx w2 => q e' M' hx w2.drop1
    | ok ss ρ2 =>
      rw [hv] at q
      have q : ∀ rs M' N, SlR (.ow xs :: ss) rs N → VOk pins ρ2 ρ M' (N ++ F) → Ψ rs M' := q
      intro rs M2 N sl w2
      refine q _ M2 _ (.ow xs a sl) (w2.frame ?_)
      exact List.perm_middle
theorem so_parC (x : Ctx X c C k) : ∀ (is : List Nat) (es : List Expr), es.length = is.length → (∀ e ∈ es, SoAll X c C e (cE c e)) → SoP X C es (parC c is es)
  | [], [], _, _ => trivial
  | [], _ :: _, h, _ => by simp at h
  | _ :: _, [], h, _ => by simp at h
  | i :: is, e :: es, h, hs => by
    have s := hs e (by simp)
    have t := so_parC x is es (by simpa using h) fun e he => hs e (List.mem_cons_of_mem _ he)
    unfold parC
    split
    · exact ⟨s.o, t⟩
    · exact ⟨s.v, t⟩
theorem so_par2 (x : Ctx X c C k) (hb : c.b.blk = false) {n1 n2 : Str} {i j : Nat} {a b : Expr} {vs : List (Bool × E)} {kt k2 : Nat} {px py pt pt2 p : Pos} (hi : slotW c.b n1 = some i) (hj : slotW c.b n2 = some j) (hsw : swapOk c.b [.Name n1 px, .Name n2 py] [a, b] = true) (hs : SoP X C [a, b] vs) :
    SoS X C (.Assign [.Tuple [.Name n1 px, .Name n2 py] kt pt] (.Tuple [a, b] k2 pt2) p) (.par [i, j] vs) := fun pins ρE ρ M F D w p => by
  have sw := IR.swap_yes (k1 := kt) (p1 := pt) (k2 := k2) (p2 := pt2) hsw
  rw [← swap_scope (e1 := X.env) (e2 := dumE c.b.sc) x.b.sc] at sw
  have hsw' := hsw
  unfold IR.swapOk at hsw'
  simp only [Bool.and_eq_true, decide_eq_true_eq, Bool.not_eq_true'] at hsw'
  obtain ⟨⟨⟨⟨⟨⟨⟨h1, h2⟩, h3⟩, h4⟩, h5⟩, h6⟩, h7⟩, h8⟩ := hsw'
  have nm : swapNs c.b [.Name n1 px, .Name n2 py] = [n1, n2] ∧ c.b.sc.names.lookup n1 = some .local ∧ c.b.sc.names.lookup n2 = some .local := by
    have h5 : (swapNs c.b [.Name n1 px, .Name n2 py]).length = 2 := by simpa using h5
    unfold IR.swapNs at h5 ⊢
    generalize (Option.map (fun x : Expr => x.pos.line) _).getD 0 = ln at h5 ⊢
    obtain ⟨e1, l1⟩ := IR.swap_one (rest := [.Name n2 py]) h5
    rw [e1] at h5 ⊢
    obtain ⟨e2, l2⟩ := IR.swap_one (rest := []) (by simpa using h5)
    rw [e2]
    exact ⟨rfl, l1, l2⟩
  rw [nm.1] at sw h6
  have v1 := var_of x.b hb hi
  have v2 := var_of x.b hb hj
  have hij : i ≠ j := by
    intro e
    subst e
    have e2 := v1.n.symm.trans v2.n
    cases e2
    exact IR.dups_two h6 rfl
  rw [ex] at p
  refine gs_par v1 v2 x.b.calm x.b.nd hij (by rw [x.b.sc]; exact nm.2.1) (by rw [x.b.sc]; exact nm.2.2) sw (by rw [sole_eq]; exact swap_no rfl) (so_argsS _ vs h4 hs pins ρE ρ M F _ _ w ((ps_bind p).imp fun ss ρ1 q rs M1 N sl w1 => ?_))
  split at q
  · rename_i ρ2 hset
    have fin := setAll_ok sl w1 hset
    cases sl with
    | nil => simp [setAll] at hset
    | v d t => cases t with
      | nil => simp only [setAll] at hset; split at hset <;> simp_all
      | v d2 t2 => cases t2 with
        | nil => exact ⟨_, _, rfl, q _ M1 fin⟩
        | _ => simp only [setAll] at hset; repeat (split at hset <;> simp_all)
      | ow xs2 a2 t2 => cases t2 with
        | nil => exact ⟨_, _, rfl, q _ M1 fin⟩
        | _ => simp only [setAll] at hset; repeat (split at hset <;> simp_all)
    | ow xs a' t => cases t with
      | nil => simp only [setAll] at hset; split at hset <;> simp_all
      | v d2 t2 => cases t2 with
        | nil => exact ⟨_, _, rfl, q _ M1 fin⟩
        | _ => simp only [setAll] at hset; repeat (split at hset <;> simp_all)
      | ow xs2 a2 t2 => cases t2 with
        | nil => exact ⟨_, _, rfl, q _ M1 fin⟩
        | _ => simp only [setAll] at hset; repeat (split at hset <;> simp_all)
  · exact q.elim
end
end VM

set_option Elab.async false
set_option linter.all false
set_option maxRecDepth 100000
set_option maxHeartbeats 4000000
namespace VM
open PySem PySem.Spec PyProof.Rows L2 Dl
open IR (notStar notComp notSlice notSet notTup isTup plainB opC cpC isLst plainT star_cons star_any asg_cons marks_no fold_no swap_no attr_no true_plain plainIx slotR slotW isGl useB ownC cTg cTgs kwNames tgs_star asg_len permC idxOf Lst tyC opC_eq cpC_eq all_star tyC_nm nameE nmOf swapNo swapNs swapOk var_of sole_eq nameE_of lcOk)
section
variable {X : Cx} {c : Cc} {C : Str → List Sl → RC} {k : Nat}
theorem so_par3 (x : Ctx X c C k) (hb : c.b.blk = false) {n1 n2 n3 : Str} {i j l : Nat} {a b d : Expr} {vs : List (Bool × E)} {kt k2 : Nat} {px py pz pt pt2 p : Pos} (hi : slotW c.b n1 = some i) (hj : slotW c.b n2 = some j) (hl : slotW c.b n3 = some l) (hsw : swapOk c.b [.Name n1 px, .Name n2 py, .Name n3 pz] [a, b, d] = true) (hs : SoP X C [a, b, d] vs) :
    SoS X C (.Assign [.Tuple [.Name n1 px, .Name n2 py, .Name n3 pz] kt pt] (.Tuple [a, b, d] k2 pt2) p) (.par [i, j, l] vs) := fun pins ρE ρ M F D w p => by
  have sw := IR.swap_yes (k1 := kt) (p1 := pt) (k2 := k2) (p2 := pt2) hsw
  rw [← swap_scope (e1 := X.env) (e2 := dumE c.b.sc) x.b.sc] at sw
  have hsw' := hsw
  unfold IR.swapOk at hsw'
  simp only [Bool.and_eq_true, decide_eq_true_eq, Bool.not_eq_true'] at hsw'
  obtain ⟨⟨⟨⟨⟨⟨⟨h1, h2⟩, h3⟩, h4⟩, h5⟩, h6⟩, h7⟩, h8⟩ := hsw'
  have nm : swapNs c.b [.Name n1 px, .Name n2 py, .Name n3 pz] = [n1, n2, n3] ∧ c.b.sc.names.lookup n1 = some .local ∧ c.b.sc.names.lookup n2 = some .local ∧ c.b.sc.names.lookup n3 = some .local := by
    have h5 : (swapNs c.b [.Name n1 px, .Name n2 py, .Name n3 pz]).length = 3 := by simpa using h5
    unfold IR.swapNs at h5 ⊢
    generalize (Option.map (fun x : Expr => x.pos.line) _).getD 0 = ln at h5 ⊢
    obtain ⟨e1, l1⟩ := IR.swap_one (rest := [.Name n2 py, .Name n3 pz]) h5
    rw [e1] at h5 ⊢
    obtain ⟨e2, l2⟩ := IR.swap_one (rest := [.Name n3 pz]) (by simpa using h5)
    rw [e2] at h5 ⊢
    obtain ⟨e3, l3⟩ := IR.swap_one (rest := []) (by simpa using h5)
    rw [e3]
    exact ⟨rfl, l1, l2, l3⟩
  rw [nm.1] at sw h6
  have v1 := var_of x.b hb hi
  have v2 := var_of x.b hb hj
  have v3 := var_of x.b hb hl
  obtain ⟨d1, d2, d3⟩ := IR.dups_three h6
  have ne : ∀ {p q : Nat} {m1 m2 : Str}, X.N[p]? = some m1 → X.N[q]? = some m2 → m1 ≠ m2 → p ≠ q := fun a b z e => by
    subst e; rw [a] at b; cases b; exact z rfl
  rw [ex] at p
  refine IR.gs_par3 v1 v2 v3 x.b.calm x.b.nd (ne v1.n v2.n d1) (ne v1.n v3.n d2) (ne v2.n v3.n d3) (by rw [x.b.sc]; exact nm.2.1) (by rw [x.b.sc]; exact nm.2.2.1) (by rw [x.b.sc]; exact nm.2.2.2) sw (by rw [sole_eq]; exact swap_no rfl) (so_argsS _ vs h4 hs pins ρE ρ M F _ _ w ((ps_bind p).imp fun ss ρ1 q rs M1 N sl w1 => ?_))
  split at q
  · rename_i ρ2 hset
    have fin := setAll_ok sl w1 hset
    have hl3 : ss.length = 3 := by
      have : ∀ {is : List Nat} {ss : List Sl} {ρ ρ' : Ev}, setAll is ss ρ = some ρ' → ss.length = is.length := by
        intro is
        induction is with
        | nil => intro ss ρ ρ' h; cases ss with | nil => rfl | cons _ _ => simp [setAll] at h
        | cons i is ih =>
          intro ss ρ ρ' h
          cases ss with
          | nil => simp [setAll] at h
          | cons s ss => rw [setAll] at h; split at h; · simp [ih h]
                         · cases h
      exact this hset
    have hr3 : rs.length = 3 := by
      have : ∀ {ss : List Sl} {rs : List Rv} {N : Mem}, SlR ss rs N → rs.length = ss.length := by
        intro ss rs N h
        induction h with
        | nil => rfl
        | v _ _ ih => simp [ih]
        | ow _ _ _ ih => simp [ih]
      rw [this sl]; exact hl3
    rcases rs with _ | ⟨r1, _ | ⟨r2, _ | ⟨r3, _ | ⟨r4, rs⟩⟩⟩⟩
    · simp at hr3
    · simp at hr3
    · simp at hr3
    · exact ⟨_, _, _, rfl, q _ M1 fin⟩
    · simp at hr3
  · exact q.elim
/-- a, b, .. = t: the tuple, then the names -/
theorem ggs_names (x : Ctx X c C k) (hb : c.b.blk = false) : ∀ (ts : List Expr) (tgs : List Tg), cTgs c.b ts = some tgs → ts.all nameE = true → ∀ rs ρ M (Ψ : List Rv → Mem → Prop), rs.length = (tgs.filterMap nmOf).length → Ψ (setR (tgs.filterMap nmOf) rs ρ) M → GGs X ts rs ρ M Ψ []
  | [], _, h, _, rs, ρ, M, Ψ, hl, k => by
    rw [cTgs] at h; cases h
    cases rs with
    | nil => exact ggs_nil k
    | cons _ _ => simp at hl
  | t :: ts, _, h, hn, rs, ρ, M, Ψ, hl, kk => by
    rw [List.all_cons, Bool.and_eq_true] at hn
    obtain ⟨n, p, rfl⟩ := nameE_of hn.1
    rw [cTgs] at h
    split at h
    · rename_i a b h1 h2
      cases h
      rw [cTg] at h1
      obtain ⟨i, h3, h4⟩ := Option.map_eq_some_iff.mp h1
      subst h4
      obtain ⟨a1, a2, a3, a4, _⟩ := IR.slotW_of x.b h3
      have e1 : (IR.Tg.nm i :: b).filterMap nmOf = i :: b.filterMap nmOf := rfl
      rw [e1] at hl kk
      cases rs with
      | nil => simp at hl
      | cons r rs =>
        exact IR.ggs_consG (by rw [asg_cons rfl]; rfl) (gg_name x.b.nd a1 a2 a3 (.inl rfl) (ggs_names x hb ts b h2 hn.2 rs _ M Ψ (by simpa using hl) kk))
    · cases h
theorem setAll_len : ∀ {is : List Nat} {ss : List Sl} {ρ ρ' : Ev}, setAll is ss ρ = some ρ' → ss.length = is.length
  | [], [], _, _, _ => rfl
  | [], _ :: _, _, _, h => by simp [setAll] at h
  | _ :: _, [], _, _, h => by simp [setAll] at h
  | i :: is, s :: ss, _, _, h => by
    rw [setAll] at h
    split at h
    · simp [setAll_len h]
    · cases h
theorem SlR.len {ss : List Sl} {rs : List Rv} {N : Mem} (h : SlR ss rs N) : rs.length = ss.length := by
  induction h with
  | nil => rfl
  | v _ _ ih => simp [ih]
  | ow _ _ _ ih => simp [ih]
theorem so_parT (x : Ctx X c C k) (hb : c.b.blk = false) {ts vs : List Expr} {tgs : List Tg} {ps : List (Bool × E)} {k1 k2 : Nat} {p1 p2 p : Pos} (ht : cTgs c.b ts = some tgs) (hn : vs.all notStar = true) (hnm : ts.all nameE = true) (hlen : vs.length ≤ 1000) (hl : (tgs.filterMap nmOf).length = vs.length) (hsw : swappedStores [.Tuple ts k1 p1] (.Tuple vs k2 p2) X.env = pure none) (hs : SoP X C vs ps) :
    SoS X C (.Assign [.Tuple ts k1 p1] (.Tuple vs k2 p2) p) (.par (tgs.filterMap nmOf) ps) := fun pins ρE ρ M F D w p => by
  rw [ex] at p
  refine gs_asg (by rw [sole_eq]; exact swap_no rfl) hsw rfl (ge_tupR (so_argsS vs ps hn hs pins ρE ρ M F _ _ w ((ps_bind p).imp fun ss ρ1 q rs M1 N sl w1 => ?_)))
  split at q
  · rename_i ρ2 hset
    have e1 : rs.length = (tgs.filterMap nmOf).length := by rw [sl.len, setAll_len hset]
    have n2 : ts.length = tgs.length := (tgs_star ht).2
    have all : ts.all notStar = true := (tgs_star ht).1
    obtain ⟨l1, l2⟩ := asg_len (env := X.env) all
    have e2 : ts.length = (tgs.filterMap nmOf).length := by
      have : ∀ {ts : List Expr} {tgs : List Tg}, cTgs c.b ts = some tgs → ts.all nameE = true → ts.length = (tgs.filterMap nmOf).length := by
        intro ts
        induction ts with
        | nil => intro tgs h _; rw [cTgs] at h; cases h; rfl
        | cons t ts ih =>
          intro tgs h hn
          rw [List.all_cons, Bool.and_eq_true] at hn
          obtain ⟨n, p, rfl⟩ := nameE_of hn.1
          rw [cTgs] at h
          split at h
          · rename_i a b h1 h2
            cases h
            rw [cTg] at h1
            obtain ⟨i, h3, h4⟩ := Option.map_eq_some_iff.mp h1
            subst h4
            show _ = (i :: b.filterMap nmOf).length
            simp [ih h2 hn.2]
          · cases h
      exact this ht hnm
    refine ⟨Nat.le_trans (by omega) (by decide : 1000 ≤ sizeLine), gg_tup x.b.calm (.inl rfl) (by rw [l1]; omega) l2 (ggs_names x hb ts tgs ht hnm rs ρ M1 _ e1 (q _ M1 (setAll_ok sl w1 hset)))⟩
  · exact q.elim
theorem swap_tupAll {ts : List Expr} {k1 : Nat} {p1 : Pos} (e : Expr) (l : Nat) (env : Env) : swapsWithSole [.Tuple ts k1 p1] e l env = pure false := by
  rw [sole_eq]
  cases e <;> rfl
theorem so_asg (x : Ctx X c C k) (hb : c.b.blk = false) {ts : List Expr} {tgs : List Tg} {e : Expr} {v : E} {k1 : Nat} {p1 p : Pos} (ht : cTgs c.b ts = some tgs) (hsw : swappedStores [.Tuple ts k1 p1] e X.env = pure none) (he : SoE X C e v) : SoS X C (.Assign [.Tuple ts k1 p1] e p) (.tset (.tup tgs) v) := fun pins ρE ρ M F D w p => by
  rw [ex] at p
  refine gs_asg (swap_tupAll _ _ _) hsw rfl (so_d he w ((ps_bind p).imp fun d ρ1 q M1 w1 => ?_))
  have g := so_tg x (.Tuple ts k1 p1) (.tup tgs) (by rw [cTg, ht]; rfl)
  rw [(x.b.fn hb).2] at g
  split at q
  · rename_i ρ2 ea
    exact g pins d ρ1 ρ2 ρ M1 F _ w1 ea fun ρ' w' _ _ => q ρ' M1 w'
  · exact q.elim
theorem so_setix (x : Ctx X c C k) {o i e : Expr} {vo vi ve : E} {p1 p : Pos} (hn : notComp e = true) (hi : notSlice i = true) (ho : SoE X C o vo) (hii : SoE X C i vi) (he : SoE X C e ve) : SoS X C (.Assign [.Subscript o i p1] e p) (.setix vo vi ve) := fun pins ρE ρ M F D w p => by
  rw [ex] at p
  refine setix_at (by rw [sole_eq]; exact swap_no hn) rfl rfl (fun v => by cases i <;> first | rfl | cases hi) (so_d he w ((ps_bind p).imp fun d ρ1 q M1 w1 => ?_))
  refine ho pins ρ1 ρ M1 F _ _ w1 ((ps_bind q).imp fun u ρ2 q2 r M2 hr w2 => ?_)
  refine so_d hii w2 ((ps_bind q2).imp fun y ρ3 q3 M3 w3 => ?_)
  split at q3
  · rename_i ρ4 es
    unfold setixE at es
    split at es
    · rename_i n kk
      obtain ⟨a, ha, rfl⟩ := hr
      have key : ∀ (o : Sl) xs, ρ3[n]? = some o → list? o = some xs → (ixN xs.length kk).map (fun j => ρ3.set n (recon (some o) (xs.set j d))) = some ρ4 →
          ∃ (p : Addr) (rs : List Rv) (k : Int) (j : Nat) (M4 : Mem), Rv.cell a = .cell p ∧ Rv.d (.int kk) = .d (.int k) ∧ Cell p (Is rs) (Is (rs.set j (.d d))) M3 M4 ∧ ixN rs.length k = some j ∧ D.nx ρ M4 := fun o xs ho hl es => by
        obtain ⟨j, hj, e2⟩ := Option.map_eq_some_iff.mp es
        subst e2
        obtain ⟨a', h1, h2, h3, _⟩ := w3.own ho hl
        rw [ha] at h1; cases h1
        obtain ⟨Ma, Mb, rfl⟩ := split_of_mem h2
        refine ⟨a, rL xs, kk, j, Ma ++ (a, Is (rL (xs.set j d))) :: Mb, rfl, rfl, ?_, by rw [List.length_map]; exact hj, q3 ρ _ (h3 rfl)⟩
        have : rL (xs.set j d) = (rL xs).set j (.d d) := by unfold rL; rw [List.map_set]
        rw [this]; exact .app
      split at es
      · rename_i xs hx; exact key _ xs hx rfl es
      · rename_i m xs hx; exact key _ xs hx rfl es
      · cases es
    · cases es
  · exact q3.elim
end
end VM

set_option Elab.async false
set_option linter.all false
set_option maxRecDepth 100000
set_option maxHeartbeats 4000000
namespace VM
open PySem PySem.Spec PyProof.Rows L2 Dl
open IR (notStar notComp notSlice notSet notTup isTup plainB opC cpC isLst plainT star_cons star_any asg_cons marks_no fold_no swap_no attr_no true_plain plainIx slotR slotW isGl useB ownC cTg cTgs kwNames tgs_star asg_len permC idxOf Lst tyC opC_eq cpC_eq all_star tyC_nm nameE nmOf swapNo swapNs swapOk var_of sole_eq nameE_of lcOk)
section
variable {pins : List Addr} {ρE : Ev} {ρ : List Rv} {M F : Mem}
theorem VOk.take (w : VOk pins ρE ρ M F) {i : Nat} {xs : List D} (h : ρE[i]? = some (.ow xs)) : ∃ a, ρ[i]? = some (.cell a) ∧ VOk pins (ρE.set i .un) ρ M ((a, Is (rL xs)) :: F) := by
  obtain ⟨er, G, pm⟩ := w
  obtain ⟨r, h1, s⟩ := er.get i h
  obtain ⟨a, rfl, hc⟩ := s.cell rfl
  obtain ⟨N, p1, p2⟩ := mOf_at i h h1
  rw [hc] at p1
  refine ⟨a, h1, ?_, G, ?_⟩
  · have := er.set (.un (.cell a)) i
    rwa [set_same h1] at this
  · have q := p2 .un (.cell a)
    rw [cOf_un, set_same h1] at q
    refine (pm.trans (p1.append_right (F ++ G))).trans ?_
    have z := (q.symm.append_right ((a, Is (rL xs)) :: (F ++ G)))
    refine List.Perm.trans ?_ z
    exact List.perm_middle.symm
theorem VOk.start (w : VOk pins ρE ρ M F) (n : Nat) : VOk pins (ρE ++ List.replicate n .un) (ρ ++ List.replicate n .any) M F := by
  obtain ⟨er, G, pm⟩ := w
  have key : ∀ {ρE : Ev} {ρ : List Rv}, ERel pins ρE ρ → ERel pins (ρE ++ List.replicate n .un) (ρ ++ List.replicate n .any) ∧ mOf (ρE ++ List.replicate n .un) (ρ ++ List.replicate n .any) = mOf ρE ρ := by
    intro ρE ρ er
    induction er with
    | nil =>
      rw [List.nil_append, List.nil_append]
      induction n with
      | zero => exact ⟨.nil, rfl⟩
      | succ n ih => rw [List.replicate_succ, List.replicate_succ]; exact ⟨.cons (.un _) ih.1, ih.2⟩
    | cons s t ih => exact ⟨.cons s ih.1, by show _ ++ _ = _ ++ _; rw [← ih.2]; rfl⟩
  obtain ⟨e1, e2⟩ := key er
  exact ⟨e1, G, by rw [e2]; exact pm⟩
end
section
variable {X : Cx} {c : Cc} {C : Str → List Sl → RC} {k : Nat}
theorem gss_frzs : ∀ (is : List Nat) {st : List Stmt} {pins : List Addr} {ρE ρ1 : Ev} {ρ : List Rv} {M F : Mem} {D : DE}, VOk pins ρE ρ M F → frzEs is ρE = some ρ1 → (∀ ρ' M', VOk pins ρ1 ρ' M' F → GSs X st ρ' M' D) → GSs X st ρ M D
  | [], st, pins, ρE, ρ1, ρ, M, F, D, w, h, k => by simp [frzEs] at h; subst h; exact k ρ M w
  | i :: is, st, pins, ρE, ρ1, ρ, M, F, D, w, h, k => by
    rw [frzEs] at h
    split at h
    · rename_i ρ2 e
      unfold frzE at e
      split at e
      · rename_i xs hx
        cases e
        obtain ⟨a, h1, h2, _, h4⟩ := w.own hx rfl
        obtain ⟨Ma, Mb, rfl⟩ := split_of_mem h2
        exact gss_freeze h1 (gss_frzs is (h4 rfl (.v (.list xs)) rfl) h k)
      · cases e
      · cases e; exact gss_frzs is w h k
    · cases h
theorem so_nil : SoSs X C [] [] := fun pins ρE ρ M F D w p => by
  rw [exs] at p; exact gss_nil (p ρ M w)
theorem so_cons {st : Stmt} {ss : List Stmt} {v : S} {vs : List S} (h1 : SoS X C st v) (h2 : SoSs X C ss vs) : SoSs X C (st :: ss) (v :: vs) := fun pins ρE ρ M F D w p => by
  rw [exs] at p
  refine gss_cons (h1 pins ρE ρ M F _ w ?_)
  cases e : ex C v ρE with
  | next ρ1 => rw [e] at p; exact fun ρ2 M' w' => h2 pins ρ1 ρ2 M' F D w' p
  | ret v ρ1 => rw [e] at p; exact p
  | reto v ρ1 => rw [e] at p; exact p
  | brk ρ1 => rw [e] at p; exact p
  | cont ρ1 => rw [e] at p; exact p
  | err z ρ1 => rw [e] at p; exact p
  | bad => rw [e] at p; exact p.elim
theorem so_frz {ss : List Stmt} {vs : List S} {is : List Nat} (h : SoSs X C ss vs) : SoSs X C ss (.frz is :: vs) := fun pins ρE ρ M F D w p => by
  rw [exs, ex] at p
  cases e : frzEs is ρE with
  | none => rw [e] at p; exact p.elim
  | some ρ1 =>
    rw [e] at p
    exact gss_frzs is w e fun ρ' M' w' => h pins ρ1 ρ' M' F D w' p
theorem so_if {t : Expr} {a b : List Stmt} {vt : E} {va vb : List S} {p : Pos} (ht : SoT X C t vt) (ha : SoSs X C a va) (hb : SoSs X C b vb) : SoS X C (.If t a b p) (.ife vt va vb) := fun pins ρE ρ M F D w q => by
  rw [ex] at q
  refine gs_if (ht pins ρE ρ M F _ _ w ((ps_bind q).imp fun u ρ1 z M1 w1 => ⟨fun e => ?_, fun e => ?_⟩))
  · subst e; exact ha pins ρ1 ρ M1 F D w1 z
  · subst e; exact hb pins ρ1 ρ M1 F D w1 z
theorem so_ret {e : Expr} {v : E} {p : Pos} (he : SoE X C e v) : SoS X C (.Return (some e) p) (.ret v) := fun pins ρE ρ M F D w q => by
  rw [ex] at q
  exact gs_ret (so_d he w ((ps_bind q).imp fun d ρ1 z M1 w1 => z ρ M1 w1))
theorem so_reto {e : Expr} {v : E} {p : Pos} (he : SoO X C e v) : SoS X C (.Return (some e) p) (.reto v) := fun pins ρE ρ M F D w q => by
  rw [ex] at q
  exact gs_ret (he pins ρE ρ M F _ _ w ((ps_bind q).imp fun xs ρ1 z a M1 w1 => z ρ a M1 w1))
theorem so_rets (x : Ctx X c C k) {n : Str} {pp p : Pos} {i : Nat} (hi : slotR c.b n = some i) : SoS X C (.Return (some (.Name n pp)) p) (.rets i) := fun pins ρE ρ M F D w q => by
  rw [ex] at q
  obtain ⟨h1, h2, h3, h4⟩ := IR.slotR_of x.b hi
  split at q
  · rename_i xs hx
    obtain ⟨a, ha, w2⟩ := w.take hx
    exact gs_ret (ge_nameC h1 h2 ha rfl (q ρ a M w2) h3 h4)
  · exact q.elim
theorem so_retN {p : Pos} : SoS X C (.Return none p) .retN := fun pins ρE ρ M F D w q => by
  rw [ex] at q
  exact gs_retN (q ρ M w)
theorem so_expr {e : Expr} {v : E} {p : Pos} (hn : notComp e = true) (he : SoE X C e v) : SoS X C (.Expr e p) (.expr v) := fun pins ρE ρ M F D w q => by
  rw [ex] at q
  exact gs_expr (swap_no hn) (he pins ρE ρ M F _ _ w ((ps_bind q).imp fun u ρ1 z r M1 hr w1 => z ρ M1 w1))
theorem so_pass {p : Pos} : SoS X C (.Pass p) .pass := fun pins ρE ρ M F D w q => by
  rw [ex] at q
  exact gs_pass (q ρ M w)
theorem so_brk {p : Pos} : SoS X C (.Break p) .brk := fun pins ρE ρ M F D w q => by
  rw [ex] at q
  exact gs_break (q ρ M w)
theorem so_cont {p : Pos} : SoS X C (.Continue p) .cont := fun pins ρE ρ M F D w q => by
  rw [ex] at q
  exact gs_cont (q ρ M w)
theorem for_run (x : Ctx X c C k) (hb : c.b.blk = false) {tg : Expr} {t : Tg} {body : List Stmt} {vb : List S} {S : Mem → Prop} {D : DE} {pins : List Addr} {F : Mem} (hS : ∀ M, S M) (ht : cTg c.b tg = some t) (hbody : SoSs X C body vb) :
    ∀ (items : List VM.D) (rs : List Rv) ρE ρ M, DUps rs items → VOk pins ρE ρ M F → PS X.mg pins F (forV (fun ρ => exs C vb ρ) t items ρE) D → IR.ForW X tg body D S rs ρ M := by
  intro items
  have g := so_tg x tg t ht
  rw [(x.b.fn hb).2] at g
  induction items with
  | nil =>
    intro rs ρE ρ M du w p
    cases rs with
    | cons _ _ => exact du.elim
    | nil => rw [forV] at p; exact ⟨hS M, p ρ M w⟩
  | cons d items ih =>
    intro rs ρE ρ M du w p
    cases rs with
    | nil => exact du.elim
    | cons r rs =>
      obtain ⟨u, du⟩ := du
      rw [forV] at p
      refine ⟨hS M, ?_⟩
      split at p
      · exact p.elim
      · rename_i ρ1 e1
        refine gg_dup u (g pins d ρE ρ1 ρ M F _ w e1 fun ρ' w' _ _ => ?_)
        refine hbody pins ρ1 ρ' M F _ w' ?_
        cases eb : exs C vb ρ1 with
        | next ρ2 => simp only [eb] at p; exact fun ρ2' M' w2 => ih rs ρ2 ρ2' M' du w2 p
        | cont ρ2 => simp only [eb] at p; exact fun ρ2' M' w2 => ih rs ρ2 ρ2' M' du w2 p
        | brk ρ2 => simp only [eb] at p; exact p
        | ret v ρ2 => simp only [eb] at p; exact p
        | reto v ρ2 => simp only [eb] at p; exact p
        | err z ρ2 => simp only [eb] at p; exact p
        | bad => simp only [eb] at p; exact p.elim
theorem so_for (x : Ctx X c C k) (hb : c.b.blk = false) (hp : PassesOwn (model X.prog X.w) X.A X.env X.xe) {tg it : Expr} {t : Tg} {vit : E} {body : List Stmt} {vb : List S} {p : Pos} (ht : cTg c.b tg = some t) (hs : notSet it = true) (hit : SoI X C tg it vit) (hbody : SoSs X C body vb) :
    SoS X C (.For tg it body [] p) (.forS t vit vb) := fun pins ρE ρ M F D w q => by
  rw [ex] at q
  refine IR.gs_forW hp x.b.calm (fold_no hs _) (hit pins ρE ρ M F _ _ w ((ps_bind q).imp fun ds ρ1 z rs S M1 du hS w1 => ?_))
  exact for_run x hb hS ht hbody ds rs ρ1 ρ M1 du w1 z
theorem so_setC (x : Ctx X c C k) (hb : c.b.blk = false) {n : Str} {i : Nat} {e : Expr} {py p : Pos} (hi : slotW c.b n = some i) (hn : notComp e = true) (s : SoAll X c C e (cE c e)) : SoS X C (.Assign [.Name n py] e p) (setC c i (cE c e)) := by
  unfold setC
  split
  · exact so_seto x hb hi hn s.o
  · exact so_set x hb hi hn s.v
theorem so_setStop {i : Nat} {st : Stmt} : SoS X C st (.set i .stop) := fun pins ρE ρ M F D w p => by
  rw [ex] at p; exact False.elim p
theorem so_nameLc (x : Ctx X c C k) (hb : c.b.blk = false) {n : Str} {elt tg it : Expr} {ifs : List Expr} {scope : Scope} {py pos p : Pos} {i : Nat} (hi : slotW c.b n = some i)
    (hh : (decide (c.b.sc.kind = .function) && decide (c.b.sc.names.lookup n = some .local) && (py.line == pos.line) && !(scope.names.any fun (m, k) => m == n && (k == .local || k == .cell))) = true) :
    SoS X C (.Assign [.Name n py] (.ListComp elt [⟨tg, it, ifs, 0⟩] scope pos) p) (setC c i (cE c (.ListComp elt [⟨tg, it, ifs, 0⟩] scope pos))) := by
  have hc : cE c (.ListComp elt [⟨tg, it, ifs, 0⟩] scope pos) = lcC c scope tg it ifs (cE c it).i (cTs (blkOf c scope) ifs) (cE (blkOf c scope) elt).v := rfl
  rw [hc]
  have stop2 : SoS X C (.Assign [.Name n py] (.ListComp elt [⟨tg, it, ifs, 0⟩] scope pos) p) (setC c i stp) := by
    unfold setC
    rw [if_neg (by simp [stp, isStop])]
    exact so_setStop
  unfold lcC
  cases ht : cTg (blkOf c scope).b tg with
  | none => exact stop2
  | some t =>
    dsimp only
    cases h2 : (blkC c.b.N c.b.sc scope (ownC c.b scope) && !(ownC c.b scope).isEmpty && notSet it && decide (ifs.length ≤ 1) && itOk (isTup tg) (cE c it).i && (tgS t).all (fun j => ((ownC c.b scope).map (·.2)).contains j)) with
    | false => exact stop2
    | true =>
      rw [if_pos rfl]
      simp only [Bool.and_eq_true, decide_eq_true_eq, Bool.not_eq_true'] at h2 hh
      obtain ⟨⟨⟨⟨⟨h1, h2⟩, h3⟩, h4⟩, h5⟩, h6⟩ := h2
      obtain ⟨⟨⟨g1, g2⟩, g3⟩, g4⟩ := hh
      have b := x.block scope
      have h7 : ∀ j ∈ tgS t, j ∈ (ownC c.b scope).map (·.2) := fun j hj => by
        have := List.all_eq_true.mp h6 j hj
        simpa using this
      have main := so_setOS (so_setLc (p := p) x hb hi g1 g2 g3 g4 h1 h2 h3 h4 h7 ((snd C k it X c x).i tg h5) (fun s H Cc cl fp => so_tg (b s H Cc cl fp) tg t ht) (fun e _ s H Cc cl fp => (snd C k e _ _ (b s H Cc cl fp)).t) (fun s H Cc cl fp => (snd C k elt _ _ (b s H Cc cl fp)).v))
      unfold setC dflO
      dsimp only
      split
      · exact main.1
      · exact main.2
theorem so_tupTup (x : Ctx X c C k) (hb : c.b.blk = false) {ts vs : List Expr} {k1 k2 : Nat} {p1 p2 p : Pos} : SoS X C (.Assign [.Tuple ts k1 p1] (.Tuple vs k2 p2) p) (cS c (.Assign [.Tuple ts k1 p1] (.Tuple vs k2 p2) p)) := by
  have hc : cS c (.Assign [.Tuple ts k1 p1] (.Tuple vs k2 p2) p) = (match cTgs c.b ts with
    | some tgs => if swapNo ts vs || !((swapNs c.b ts).length == ts.length) then (if vs.all notStar then (if ts.all nameE && decide (vs.length ≤ 1000) && decide ((tgs.filterMap nmOf).length = vs.length) then .par (tgs.filterMap nmOf) (parC c (tgs.filterMap nmOf) vs) else .tset (.tup tgs) (.tup (cEs c vs))) else .stop)
      else if swapOk c.b ts vs && ts.all nameE then .par (tgs.filterMap nmOf) (parC c (tgs.filterMap nmOf) vs)
      else .stop
    | none => .stop) := rfl
  rw [hc]
  cases ht : cTgs c.b ts with
  | none => exact so_sstop
  | some tgs =>
    dsimp only
    cases h1 : (swapNo ts vs || !((swapNs c.b ts).length == ts.length)) with
    | true =>
      rw [if_pos rfl]
      have hsw : swappedStores [.Tuple ts k1 p1] (.Tuple vs k2 p2) X.env = pure none := by
        rw [Bool.or_eq_true] at h1
        rcases h1 with h1 | h1
        · exact IR.swap_len h1 _
        · rw [swap_scope (e1 := X.env) (e2 := dumE c.b.sc) x.b.sc]
          exact IR.swap_few (by simpa using h1)
      cases hn : vs.all notStar with
      | false => exact so_sstop
      | true =>
        rw [if_pos rfl]
        split
        · rename_i hh
          simp only [Bool.and_eq_true, decide_eq_true_eq] at hh
          exact so_parT x hb ht hn hh.1.1 hh.1.2 hh.2 hsw (so_parC x _ vs hh.2.symm fun e _ => snd C k e X c x)
        · exact so_asg x hb ht hsw (so_tup x hn fun e _ => (snd C k e X c x).v)
    | false =>
      rw [if_neg (by decide)]
      cases h2 : (swapOk c.b ts vs && ts.all nameE) with
      | false => exact so_sstop
      | true =>
        rw [if_pos rfl]
        rw [Bool.and_eq_true] at h2
        obtain ⟨h2, h3⟩ := h2
        have h2' := h2
        unfold IR.swapOk at h2'
        simp only [Bool.and_eq_true] at h2'
        have l1 := h2'.1.1.1.1.1.1.1
        have l2 := h2'.1.1.1.1.1.1.2
        rcases ts with _ | ⟨t1, _ | ⟨t2, _ | ⟨t3, _ | ⟨t4, ts⟩⟩⟩⟩
        · simp at l1
        · simp at l1
        · rcases vs with _ | ⟨a, _ | ⟨b, _ | ⟨d, vs⟩⟩⟩
          · simp at l2
          · simp at l2
          · simp only [List.all_cons, List.all_nil, Bool.and_true, Bool.and_eq_true] at h3
            obtain ⟨n1, q1, rfl⟩ := nameE_of h3.1
            obtain ⟨n2, q2, rfl⟩ := nameE_of h3.2
            obtain ⟨i, j, e1, e2, rfl⟩ := IR.tgs_two ht
            exact so_par2 x hb e1 e2 h2 (so_parC x [i, j] [a, b] rfl fun e _ => snd C k e X c x)
          · simp at l2
        · rcases vs with _ | ⟨a, _ | ⟨b, _ | ⟨d, _ | ⟨d2, vs⟩⟩⟩⟩
          · simp at l2
          · simp at l2
          · simp at l2
          · simp only [List.all_cons, List.all_nil, Bool.and_true, Bool.and_eq_true] at h3
            obtain ⟨n1, q1, rfl⟩ := nameE_of h3.1
            obtain ⟨n2, q2, rfl⟩ := nameE_of h3.2.1
            obtain ⟨n3, q3, rfl⟩ := nameE_of h3.2.2
            obtain ⟨i, j, l, e1, e2, e3, rfl⟩ := IR.tgs_three ht
            exact so_par3 x hb e1 e2 e3 h2 (so_parC x [i, j, l] [a, b, d] rfl fun e _ => snd C k e X c x)
          · simp at l2
        · simp at l1
theorem so_tupE (x : Ctx X c C k) (hb : c.b.blk = false) {ts : List Expr} {e : Expr} {k1 : Nat} {p1 p : Pos} (hc : cS c (.Assign [.Tuple ts k1 p1] e p) = (if notTup e then match cTgs c.b ts with
      | some tgs => .tset (.tup tgs) (cE c e).v
      | none => .stop
    else .stop)) : SoS X C (.Assign [.Tuple ts k1 p1] e p) (cS c (.Assign [.Tuple ts k1 p1] e p)) := by
  rw [hc]
  cases h : notTup e with
  | false => exact so_sstop
  | true =>
    rw [if_pos rfl]
    cases ht : cTgs c.b ts with
    | none => exact so_sstop
    | some tgs => exact so_asg x hb ht (IR.swap_tup h _) (snd C k e X c x).v
theorem so_retC (x : Ctx X c C k) {e : Expr} {p : Pos} (s : SoAll X c C e (cE c e)) : SoS X C (.Return (some e) p) (retC c e (cE c e)) := by
  unfold retC
  split
  · split
    · rename_i i hm
      unfold muName at hm
      split at hm
      · split at hm
        · split at hm
          · rename_i hi _
            cases hm
            exact so_rets x hi
          · cases hm
        · cases hm
      · cases hm
    · split
      · exact so_ret s.v
      · exact so_reto s.o
  · exact so_ret s.v
theorem sndS_n (x : Ctx X c C k) (hb : c.b.blk = false) (hp : PassesOwn (model X.prog X.w) X.A X.env X.xe) : ∀ n, (∀ st : Stmt, sizeOf st < n → SoS X C st (cS c st)) ∧ (∀ ss : List Stmt, sizeOf ss < n → SoSs X C ss (cSs c ss)) := by
  intro n
  induction n with
  | zero => exact ⟨fun _ h => by omega, fun _ h => by omega⟩
  | succ n ih =>
    refine ⟨fun st hlt => ?_, fun ss hlt => ?_⟩
    · cases st with
      | Assign ts e p =>
        rcases ts with _ | ⟨t, _ | ⟨t2, ts⟩⟩
        · exact so_sstop
        · cases t with
          | Name n py =>
            have hc : cS c (.Assign [.Name n py] e p) = (match slotW c.b n with
              | some i => if notComp e then setC c i (cE c e) else if lcOk c.b n py e then setC c i (cE c e) else .stop
              | none => .stop) := rfl
            rw [hc]
            cases hi : slotW c.b n with
            | none => exact so_sstop
            | some i =>
              dsimp only
              cases hn : notComp e with
              | true => exact so_setC x hb hi hn (snd C k e X c x)
              | false =>
                rw [if_neg (by decide)]
                cases e with
                | ListComp elt gs scope pos =>
                  cases hh : lcOk c.b n py (.ListComp elt gs scope pos) with
                  | false => exact so_sstop
                  | true =>
                    rw [if_pos rfl]
                    rcases gs with _ | ⟨⟨tg, it, ifs, asy⟩, _ | ⟨g2, gs⟩⟩
                    · cases hh
                    · by_cases ha : asy = 0
                      · subst ha
                        exact so_nameLc x hb hi hh
                      · cases asy with
                        | ofNat z => cases z with
                          | zero => exact absurd rfl ha
                          | succ z => cases hh
                        | negSucc z => cases hh
                    · cases asy with
                      | ofNat z => cases z <;> cases hh
                      | negSucc z => cases hh
                | _ => first | exact so_sstop | cases hn
          | Tuple ts k1 p1 =>
            cases e with
            | Tuple vs k2 p2 => exact so_tupTup x hb
            | _ => exact so_tupE x hb rfl
          | Subscript o i p1 =>
            have hc : cS c (.Assign [.Subscript o i p1] e p) = if notComp e && notSlice i && notTup i then .setix (cE c o).v (cE c i).v (cE c e).v else .stop := rfl
            rw [hc]
            cases h : (notComp e && notSlice i && notTup i) with
            | false => exact so_sstop
            | true =>
              simp only [Bool.and_eq_true] at h
              exact so_setix x h.1.1 h.1.2 (snd C k o X c x).v (snd C k i X c x).v (snd C k e X c x).v
          | _ => exact so_sstop
        · cases t <;> first | exact so_sstop | (cases e <;> exact so_sstop)
      | If t a b p =>
        simp at hlt
        exact so_if (snd C k t X c x).t (ih.2 a (by omega)) (ih.2 b (by omega))
      | For tg it body els p =>
        cases els with
        | nil =>
          simp at hlt
          have hc : cS c (.For tg it body [] p) = (match cTg c.b tg with
            | some t => if notSet it && itOk (isTup tg) (cE c it).i then .forS t (cE c it).i (cSs c body) else .stop
            | none => .stop) := rfl
          rw [hc]
          cases ht : cTg c.b tg with
          | none => exact so_sstop
          | some t =>
            dsimp only
            cases h : (notSet it && itOk (isTup tg) (cE c it).i) with
            | false => exact so_sstop
            | true =>
              rw [Bool.and_eq_true] at h
              exact so_for x hb hp ht h.1 ((snd C k it X c x).i tg h.2) (ih.2 body (by omega))
        | cons a b => exact so_sstop
      | Return v p =>
        cases v with
        | none => exact so_retN
        | some e => exact so_retC x (snd C k e X c x)
      | Expr e p =>
        have hc : cS c (.Expr e p) = if notComp e then .expr (cE c e).v else .stop := rfl
        rw [hc]
        cases h : notComp e with
        | false => exact so_sstop
        | true => exact so_expr h (snd C k e X c x).v
      | Pass p => exact so_pass
      | Break p => exact so_brk
      | Continue p => exact so_cont
      | _ => exact so_sstop
    · cases ss with
      | nil => exact so_nil
      | cons s ss =>
        simp at hlt
        have main := so_cons (ih.1 s (by omega)) (ih.2 ss (by omega))
        rw [cSs]
        split
        · exact main
        · exact so_frz main
theorem sndSs (x : Ctx X c C k) (hb : c.b.blk = false) (hp : PassesOwn (model X.prog X.w) X.A X.env X.xe) (ss : List Stmt) : SoSs X C ss (cSs c ss) := (sndS_n x hb hp (sizeOf ss + 1)).2 ss (by omega)
end
end VM

set_option Elab.async false
set_option linter.all false
set_option maxRecDepth 100000
set_option maxHeartbeats 4000000
namespace VM
open PySem PySem.Spec PyProof.Rows L2 Dl
section
variable {P : Program} {w : World} {K : Frg} {mg : Str → Option Value} {base : Heap} {G : IR.Pg}
theorem call_arity {T : Str → Option Fn} {f : Str} {fn : Fn} (hT : T f = some fn) {k : Nat} {as : List Sl} (hl : as.length ≠ fn.ps) : call T k f as = .bad := by
  cases k with
  | zero => rfl
  | succ k => rw [call, hT]; exact if_neg fun z => hl z.1
theorem at_lookup {tab : List IR.FnI} {x : Str} {ps : List Str} {ords : List (List Str)} {mus : List Nat} (h : (tab.map fun g => (g.x, (g.ps, g.ords, g.mu.filter fun i => decide (i < g.ps.length)))).lookup x = some (ps, ords, mus)) : ∃ fi, tab.find? (fun g => g.x == x) = some fi ∧ fi.ps = ps ∧ fi.ords = ords ∧ fi.x = x := by
  induction tab with
  | nil => cases h
  | cons g tab ih =>
    rw [List.map_cons, List.lookup_cons] at h
    rw [List.find?_cons]
    by_cases e : g.x = x
    · subst e
      simp only [beq_self_eq_true] at h ⊢
      cases h
      exact ⟨g, rfl, rfl, rfl, rfl⟩
    · have e1 : (x == g.x) = false := by simpa using fun z => e z.symm
      have e2 : (g.x == x) = false := by simpa using e
      rw [e1] at h
      rw [e2]
      exact ih h
theorem fn_step {k : Nat} {fi : IR.FnI} {f : Addr} {fd : FuncData} (hc : ∀ x v, G.cons.lookup x = some v → GloG mg x (.int v)) (hb : ∀ x ∈ G.bts, mg x = none)
    (ih : ∀ x fi, G.at x = some fi → DefG P w K mg base x k fi.ps fi.ords (pdV mg (call (TV G) k) x fi.ps.length)) (hx : G.at fi.x = some fi) (W : IR.FnWf fi) (Fn : L2.Fun K fi.x fi.x fi.st f fd) :
    FnD P w K mg base (k + 1) f fd fi.ps (pdV mg (call (TV G) (k + 1)) fi.x fi.ps.length) := by
    have hT : TV G fi.x = some (fnV G fi) := by unfold TV; rw [hx]; rfl
    have hpre : fi.ps.length ≤ fi.N.length := by
      have := congrArg List.length W.sc.pre
      rw [List.length_take] at this
      omega
    refine Fun.okD (List.replicate (fi.N.length - fi.ps.length) .any) Fn W.sc (by rw [List.length_replicate]) (by rw [List.all_eq_true]; intro r hr; rw [List.eq_of_mem_replicate hr]; rfl) (fun rs M Φ Ξ q => q.1) ?_
    intro X hP hw hK hmg hbase cx hr rs M Φ Ξ ⟨hl, pins, as, F, w0, hok, p⟩
    subst hP hw hK hmg hbase
    have cxx : Ctx X (cc G fi) (call (TV G) k) k := by
      refine ⟨⟨cx.hN, cx.sc, cx.nd, cx.calm, cx.gu, hr, fun f ps ords hf => (by cases hf), fun y v e => (hc y v e).glo, hb, fun _ => ⟨cx.fn, rfl⟩⟩, fun f ps ords mus hf => ?_⟩
      obtain ⟨fi2, e1, e2, e3, e4⟩ := at_lookup hf
      have d := (ih f fi2 e1).df (Nat.le_refl k)
      rw [e2, e3] at d
      exact ⟨d, fun as hne => call_arity (fn := fnV G fi2) (by unfold TV IR.Pg.at; rw [e1]; rfl) (by show _ ≠ fi2.ps.length; rw [e2]; exact hne)⟩
    rw [call, hT] at p
    dsimp only at p
    split at p
    · refine sndSs cxx rfl cx.pass (defBody fi.st) pins _ (rs ++ List.replicate (fi.N.length - fi.ps.length) .any) M F _ (w0.start _) ?_
      show PS X.mg pins F (exs (call (TV G) k) (cSs (cc G fi) (defBody fi.st)) (as ++ List.replicate (fi.N.length - fi.ps.length) .un)) _
      have e : (fnV G fi).body = cSs (cc G fi) (defBody fi.st) := rfl
      have e2 : (fnV G fi).n - (fnV G fi).ps = fi.N.length - fi.ps.length := rfl
      rw [e, e2] at p
      have back : ∀ {ρE' ρ' M' F' o}, VOk pins ρE' ρ' M' F' → outsOf as ρE' = some o → VOk pins (outA as o) rs M' F' := fun {ρE' ρ' M' F' o} w1 ho => by
        obtain ⟨er, G1, pm⟩ := w1
        obtain ⟨g1, N, g2⟩ := outs_ok hok w0.1 er ho
        refine ⟨g1, N ++ G1, (pm.trans (g2.append_right (F' ++ G1))).trans ?_⟩
        rw [List.append_assoc]
        exact perm_swap3.append_left _
      unfold RS.toC at p
      cases er : exs (call (TV G) k) (cSs (cc G fi) (defBody fi.st)) (as ++ List.replicate (fi.N.length - fi.ps.length) .un) with
      | next ρ1 =>
        rw [er] at p
        dsimp only at p
        split at p
        · rename_i o ho; exact fun ρ' M' w1 => p M' (back w1 ho)
        · exact p.elim
      | ret d ρ1 =>
        rw [er] at p
        dsimp only at p
        split at p
        · rename_i o ho; exact fun ρ' M' w1 => p M' (back w1 ho)
        · exact p.elim
      | reto xs ρ1 =>
        rw [er] at p
        dsimp only at p
        split at p
        · rename_i o ho; exact fun ρ' a M' w1 => p a M' (back w1 ho)
        · exact p.elim
      | brk ρ1 => rw [er] at p; exact p.elim
      | cont ρ1 => rw [er] at p; exact p.elim
      | err z ρ1 =>
        rw [er] at p
        dsimp only at p
        split at p
        · rename_i o ho; exact fun e ρ' M' q w1 => p e M' q (back w1 ho)
        · exact p.elim
      | bad => rw [er] at p; exact p.elim
    · exact p.elim
theorem prog_fn (hF : ∀ fi ∈ G.tab, ∃ (f : Addr) (kV dc pm : Value) (an : Option Addr) (cd ct : Value), L2.Fun K fi.x fi.x fi.st f (PySem.W.fnOf fi.x fi.x (defArgs fi.st) (defBody fi.st) (defScope fi.st) .none kV dc pm an cd ct) ∧ mg fi.x = some (.ref f) ∧ PySem.W.keepIn K (.ref f) = true)
    (hW : ∀ fi ∈ G.tab, IR.FnWf fi) (hc : ∀ x v, G.cons.lookup x = some v → GloG mg x (.int v)) (hb : ∀ x ∈ G.bts, mg x = none) :
    ∀ k x fi, G.at x = some fi → DefG P w K mg base x k fi.ps fi.ords (pdV mg (call (TV G) k) x fi.ps.length) := by
  intro k
  induction k with
  | zero =>
    intro x fi hx
    have hm := List.mem_of_find?_eq_some hx
    have ex : fi.x = x := by simpa using List.find?_some hx
    obtain ⟨f, kV, dc, pm, an, cd, ct, Fn, h1, h2⟩ := hF fi hm
    have W := hW fi hm
    subst ex
    refine ⟨⟨f, _, ⟨fun rs M Φ Ξ q => q.1, fun A outer s H ar us vs Q E hr hg e0 hb r ⟨B, M, rs, Φ, Ξ, o, a, ⟨_, pins, as, F, _, _, p⟩, _⟩ => p.elim⟩, h1, h2, W.b1 kV dc pm an cd ct, W.b2 kV dc pm an cd ct⟩, W.d⟩
  | succ k ih =>
    intro x fi hx
    have hm := List.mem_of_find?_eq_some hx
    have ex : fi.x = x := by simpa using List.find?_some hx
    obtain ⟨f, kV, dc, pm, an, cd, ct, Fn, h1, h2⟩ := hF fi hm
    have W := hW fi hm
    subst ex
    exact ⟨⟨f, _, fn_step hc hb ih hx W Fn, h1, h2, W.b1 kV dc pm an cd ct, W.b2 kV dc pm an cd ct⟩, W.d⟩
end
theorem law_mk {l : PySem.W.OpenLaw} {w : World} {K : Frg} {h : Heap} {mg : Str → Option Value} {fa : Addr} {n kk : Nat} {G : IR.Pg} {law : IR.FnI} (X : K.In h) (Gn : h.Ns mainGlobals mg) (hfa : mg "law" = some (.ref fa))
    (hI : ∀ fi ∈ G.tab, FunIn K fi.x fi.x fi.st) (hJ : ∀ p ∈ G.cons, ConIn K p.1 (.int p.2) ∧ (p.1 == ("__debug__" : Str)) = false) (hZ : ∀ x ∈ G.bts, PySem.W.nsIn K mainGlobals x = some none) (hW : ∀ fi ∈ G.tab, IR.FnWf fi)
    (hlaw : G.at "law" = some law) (hps : law.ps = [("script" : Str)]) (hR : ∀ ns : List Int, ns.length ≤ n → call (TV G) (kk + 1) "law" [.v (dI ns)] = .ok (.d (.bool true)) []) :
    ∃ fd : FuncData, (∀ (s : Shared) (v : Value), BindsTo s fd ⟨[v], []⟩ [("script", v)]) ∧ ∀ base : Heap, K.In base → base.Ns mainGlobals mg → FnD l.prog w K mg base (kk + 1) fa fd ["script"] (IR.pdLaw n) := by
  have hc : ∀ x v, G.cons.lookup x = some v → GloG mg x (.int v) := fun x v e => by
    have hm : (x, v) ∈ G.cons := by
      have : ∀ (xs : List (Str × Int)), xs.lookup x = some v → (x, v) ∈ xs := by
        intro xs
        induction xs with
        | nil => intro e; cases e
        | cons a xs ih =>
          intro e
          rw [List.lookup_cons] at e
          by_cases z : x = a.1
          · subst z; simp only [beq_self_eq_true] at e; cases e; simp
          · have z' : (x == a.1) = false := by simpa using z
            rw [z'] at e
            exact List.mem_cons_of_mem _ (ih e)
      exact this _ e
    obtain ⟨j, d⟩ := hJ _ hm
    exact j.glo X Gn d
  have hF : ∀ fi ∈ G.tab, ∃ (f : Addr) (kV dc pm : Value) (an : Option Addr) (cd ct : Value), L2.Fun K fi.x fi.x fi.st f (PySem.W.fnOf fi.x fi.x (defArgs fi.st) (defBody fi.st) (defScope fi.st) .none kV dc pm an cd ct) ∧ mg fi.x = some (.ref f) ∧ PySem.W.keepIn K (.ref f) = true := fun fi hm => by
    obtain ⟨f, _, _, an, _, kV, dc, pm, cd, ct, a, l, q, kp⟩ := hI fi hm
    exact ⟨f, kV, dc, pm, an, cd, ct, fun_mk (st := fi.st) l q kp, PySem.W.mg_of X Gn a, kp⟩
  have hb : ∀ x ∈ G.bts, mg x = none := fun x hx => PySem.W.mg_none_of X Gn (hZ x hx)
  have ex : law.x = "law" := by simpa using List.find?_some hlaw
  have hm := List.mem_of_find?_eq_some hlaw
  have W := hW law hm
  obtain ⟨f0, _, _, an, _, kV, dc, pm, cd, ct, a0, l0, q0, kp0⟩ := hI law hm
  have F0 := fun_mk (st := law.st) l0 q0 kp0
  have g0 := PySem.W.mg_of X Gn a0
  rw [ex] at g0
  have e := hfa.symm.trans g0
  cases e
  refine ⟨PySem.W.fnOf law.x law.x (defArgs law.st) (defBody law.st) (defScope law.st) .none kV dc pm an cd ct, fun s v => .of_eq ?_, fun base _ _ => ?_⟩
  · have := W.b1 kV dc pm an cd ct [v] (by rw [hps]; rfl)
    rw [hps] at this
    exact this
  · have st := fn_step (P := l.prog) (w := w) (base := base) hc hb (prog_fn hF hW hc hb kk) (by rw [ex]; exact hlaw) W F0
    rw [hps] at st
    refine st.imp fun rs M Φ Ξ ⟨ns, e1, hl, e2, q⟩ => ?_
    subst e1 e2
    refine ⟨rfl, [], [.v (dI ns)], [], ⟨.cons (.v _) .nil, [], .refl _⟩, rfl, ?_⟩
    rw [ex, hR ns hl]
    exact fun M' _ => q M'
end VM

set_option Elab.async false
set_option linter.all false
set_option maxRecDepth 100000
set_option maxHeartbeats 4000000
namespace VM
open PySem PySem.Spec PyProof.Rows L2 Dl
open IR (Hid Br br_mk br_t br_f OnO onO_some If if_t if_mk)
/-! ## what is wished of a run -/
abbrev XK := Exn → Ev → Prop
def R.wp {α : Type} (r : R α) (Q : α → Ev → Prop) (X : XK) (_ : Hid (Q, X) := ()) : Prop := match r with
  | .ok a ρ => Q a ρ
  | .err x ρ => X x ρ
  | .bad => False
structure Sk where
  nx : Ev → Prop
  rt : D → Ev → Prop
  ro : List D → Ev → Prop
  bk : Ev → Prop
  ct : Ev → Prop
  xx : XK
def RS.wp (r : RS) (S : Sk) (_ : Hid S := ()) : Prop := match r with
  | .next ρ => S.nx ρ
  | .ret d ρ => S.rt d ρ
  | .reto d ρ => S.ro d ρ
  | .brk ρ => S.bk ρ
  | .cont ρ => S.ct ρ
  | .err x ρ => S.xx x ρ
  | .bad => False
def RC.wp (r : RC) (Q : Ret → List (List D) → Prop) (X : Exn → List (List D) → Prop) (_ : Hid (Q, X) := ()) : Prop := match r with
  | .ok a o => Q a o
  | .err x o => X x o
  | .bad => False
theorem wp_ext {α : Type} {r : R α} {Q Q' : α → Ev → Prop} {X : XK} (h : ∀ a m, Q a m = Q' a m) : r.wp Q X = r.wp Q' X := by
  have e : Q = Q' := by funext a m; exact h a m
  subst e; rfl
section
variable {α β : Type} {C : Str → List Sl → RC} {ρ : Ev} {X : XK} {Q : VV → Ev → Prop} {QB : Bool → Ev → Prop} {QD : D → Ev → Prop} {QO : List D → Ev → Prop} {S : Sk}
theorem wp_ok {a : α} {Q : α → Ev → Prop} : (R.ok a ρ).wp Q X = Q a ρ := id rfl
theorem wp_bind {r : R α} {f : α → Ev → R β} {Q : β → Ev → Prop} : (r.bind f).wp Q X = r.wp (fun a ρ => (f a ρ).wp Q X) X := by cases r <;> rfl
theorem wp_bindS {r : R α} {f : α → Ev → RS} : (r.bindS f).wp S = r.wp (fun a ρ => (f a ρ).wp S) S.xx := by cases r <;> rfl
theorem wp_mono {r : R α} {Q Q' : α → Ev → Prop} (p : r.wp Q X) (k : ∀ a h, Q a h → Q' a h) : r.wp Q' X := by
  cases r with
  | ok a h => exact k _ _ p
  | err x h => exact p
  | bad => exact p
theorem wp_next : (RS.next ρ).wp S = S.nx ρ := id rfl
theorem wp_ret {v : D} : (RS.ret v ρ).wp S = S.rt v ρ := id rfl
theorem wp_reto {v : List D} : (RS.reto v ρ).wp S = S.ro v ρ := id rfl
theorem wp_brk : (RS.brk ρ).wp S = S.bk ρ := id rfl
theorem wp_cont : (RS.cont ρ).wp S = S.ct ρ := id rfl
theorem wp_opt {o : Option α} {Q : α → Ev → Prop} : (opt o ρ).wp Q X = OnO o fun x => Q x ρ := by cases o <;> rfl
/-- a value that is no own list -/
def OnD (x : VV) (K : D → Prop) (_ : Hid K := ()) : Prop := match x with
  | .d z => K z
  | .ref _ => False
theorem onD_d {z : D} {K : D → Prop} : OnD (.d z) K = K z := id rfl
theorem wp_dR {x : VV} : (dR x ρ).wp QD X = OnD x fun z => QD z ρ := by cases x <;> rfl
/-! what a value is -/
def OnI (v : D) (Q : Int → Prop) (_ : Hid Q := ()) : Prop := match v with
  | .int b => Q b
  | _ => False
theorem onI_int {b : Int} {Q : Int → Prop} : OnI (.int b) Q = Q b := id rfl
def OnB (v : D) (Q : Bool → Prop) (_ : Hid Q := ()) : Prop := match v with
  | .bool b => Q b
  | _ => False
theorem onB_bl {b : Bool} {Q : Bool → Prop} : OnB (.bool b) Q = Q b := id rfl
def OnR (v : VV) (Q : Nat → Prop) (_ : Hid Q := ()) : Prop := match v with
  | .ref n => Q n
  | _ => False
theorem onR_ref {b : Nat} {Q : Nat → Prop} : OnR (.ref b) Q = Q b := id rfl
def OnW (v : Ret) (Q : List D → Prop) (_ : Hid Q := ()) : Prop := match v with
  | .ow n => Q n
  | _ => False
theorem onW_ow {b : List D} {Q : List D → Prop} : OnW (.ow b) Q = Q b := id rfl
/-! expressions -/
theorem w_int {i : Int} : (ev C (.int i) ρ).wp Q X = Q (.d (.int i)) ρ := id rfl
theorem w_bl {i : Bool} : (ev C (.bl i) ρ).wp Q X = Q (.d (.bool i)) ρ := id rfl
theorem w_non : (ev C .non ρ).wp Q X = Q (.d .none) ρ := id rfl
theorem w_str {i : Str} : (ev C (.str i) ρ).wp Q X = Q (.d (.str i)) ρ := id rfl
/-- a slot -/
def At (ρ : Ev) (i : Nat) (Q : Sl → Prop) (_ : Hid Q := ()) : Prop := match ρ[i]? with
  | some o => Q o
  | none => False
theorem at_z {o : Sl} {Q : Sl → Prop} : At (o :: ρ) 0 Q = Q o := id rfl
theorem at_s {o : Sl} {i : Nat} {Q : Sl → Prop} : At (o :: ρ) (i + 1) Q = At ρ i Q := id rfl
def slV (i : Nat) (s : Sl) (Q : VV → Prop) (_ : Hid Q := ()) : Prop := match s with
  | .v d => Q (.d d)
  | .ow _ => Q (.ref i)
  | .io _ _ => Q (.ref i)
  | .un => False
theorem slV_v {i : Nat} {d : D} {Q : VV → Prop} : slV i (.v d) Q = Q (.d d) := id rfl
theorem slV_ow {i : Nat} {d : List D} {Q : VV → Prop} : slV i (.ow d) Q = Q (.ref i) := id rfl
theorem slV_io {i n : Nat} {d : List D} {Q : VV → Prop} : slV i (.io n d) Q = Q (.ref i) := id rfl
theorem w_loc {i : Nat} : (ev C (.loc i) ρ).wp Q X = At ρ i fun s => slV i s fun v => Q v ρ := by
  unfold At; rw [ev]
  generalize ρ[i]? = o
  rcases o with _ | s
  · rfl
  · cases s <;> rfl
theorem w_bin {o : Op} {a b : E} : (ev C (.bin o a b) ρ).wp Q X = (ev C a ρ).wp (fun x ρ1 => OnD x fun x => (ev C b ρ1).wp (fun y ρ2 => OnD y fun y => OnO (binD o x y) fun z => Q (.d z) ρ2) X) X := by
  rw [ev, wp_bind, wp_bind]
  refine wp_ext fun x ρ1 => ?_
  rw [wp_dR]
  cases x with
  | ref n => rfl
  | d x =>
    show (((ev C b ρ1).bind dR).bind _).wp Q X = _
    rw [wp_bind, wp_bind]
    refine wp_ext fun y ρ2 => ?_
    rw [wp_dR]
    cases y with
    | ref n => rfl
    | d y => show ((opt (binD o x y) ρ2).bind _).wp Q X = _; rw [wp_bind, wp_opt]; rfl
theorem w_cmp {o : Cp} {a b : E} : (ev C (.cmp o a b) ρ).wp Q X = (ev C a ρ).wp (fun x ρ1 => (ev C b ρ1).wp (fun y ρ2 => OnO (val ρ2 x) fun x => OnO (val ρ2 y) fun y => OnO (cmpD o x y) fun z => Q (.d (.bool z)) ρ2) X) X := by
  rw [ev, wp_bind]
  refine wp_ext fun x ρ1 => ?_
  rw [wp_bind]
  refine wp_ext fun y ρ2 => ?_
  rw [wp_bind, wp_opt]
  cases val ρ2 x with
  | none => rfl
  | some x' =>
    show ((opt (val ρ2 y) ρ2).bind _).wp Q X = _
    rw [wp_bind, wp_opt]
    cases val ρ2 y with
    | none => rfl
    | some y' =>
      show ((opt (cmpD o x' y') ρ2).bind _).wp Q X = _
      rw [wp_bind, wp_opt]; rfl
theorem w_d1 {a : E} {f : D → Ev → R α} {Q : α → Ev → Prop} : (((ev C a ρ).bind dR).bind f).wp Q X = (ev C a ρ).wp (fun x ρ1 => OnD x fun x => (f x ρ1).wp Q X) X := by
  rw [wp_bind, wp_bind]
  refine wp_ext fun x ρ1 => ?_
  rw [wp_dR]
theorem w_chain {o p : Cp} {a b c : E} : (ev C (.chain o p a b c) ρ).wp Q X = (ev C a ρ).wp (fun x ρ1 => OnD x fun x => (ev C b ρ1).wp (fun y ρ2 => OnD y fun y => OnO (cmpD o x y) fun t => Br t ((ev C c ρ2).wp (fun z ρ4 => OnD z fun z => OnO (cmpD p y z) fun z => Q (.d (.bool z)) ρ4) X) (Q (.d (.bool false)) ρ2)) X) X := by
  rw [ev, w_d1]
  refine wp_ext fun x ρ1 => ?_
  cases x with
  | ref n => rfl
  | d x =>
    show (((ev C b ρ1).bind dR).bind _).wp Q X = _
    rw [w_d1]
    refine wp_ext fun y ρ2 => ?_
    cases y with
    | ref n => rfl
    | d y =>
      show ((opt (cmpD o x y) ρ2).bind _).wp Q X = _
      rw [wp_bind, wp_opt]
      show OnO _ _ = OnO _ _
      cases cmpD o x y with
      | none => rfl
      | some t =>
        cases t with
        | false => rfl
        | true =>
          show (((ev C c ρ2).bind dR).bind _).wp Q X = _
          rw [w_d1]
          refine wp_ext fun z ρ4 => ?_
          cases z with
          | ref n => rfl
          | d z => show ((opt (cmpD p y z) ρ4).bind _).wp Q X = _; rw [wp_bind, wp_opt]; rfl
theorem w_and {a b : E} : (ev C (.and a b) ρ).wp Q X = (ev C a ρ).wp (fun x ρ1 => OnD x fun x => OnB x fun t => Br t ((ev C b ρ1).wp Q X) (Q (.d (.bool false)) ρ1)) X := by
  rw [ev, w_d1]
  refine wp_ext fun x ρ1 => ?_
  cases x with
  | ref n => rfl
  | d x => cases x with
    | bool t => cases t <;> rfl
    | _ => rfl
theorem w_or {a b : E} : (ev C (.or a b) ρ).wp Q X = (ev C a ρ).wp (fun x ρ1 => OnD x fun x => OnB x fun t => Br t (Q (.d (.bool true)) ρ1) ((ev C b ρ1).wp Q X)) X := by
  rw [ev, w_d1]
  refine wp_ext fun x ρ1 => ?_
  cases x with
  | ref n => rfl
  | d x => cases x with
    | bool t => cases t <;> rfl
    | _ => rfl
theorem w_not {a : E} : (ev C (.not a) ρ).wp Q X = (ev C a ρ).wp (fun x ρ1 => OnD x fun x => OnB x fun t => Q (.d (.bool (!t))) ρ1) X := by
  rw [ev, w_d1]
  refine wp_ext fun x ρ1 => ?_
  cases x with
  | ref n => rfl
  | d x => cases x <;> rfl
theorem w_neg {a : E} : (ev C (.neg a) ρ).wp Q X = (ev C a ρ).wp (fun x ρ1 => OnD x fun x => OnI x fun t => Q (.d (.int (-t))) ρ1) X := by
  rw [ev, w_d1]
  refine wp_ext fun x ρ1 => ?_
  cases x with
  | ref n => rfl
  | d x => cases x <;> rfl
theorem w_ite {c a b : E} : (ev C (.ite c a b) ρ).wp Q X = (tv C c ρ).wp (fun t ρ1 => Br t ((ev C a ρ1).wp Q X) ((ev C b ρ1).wp Q X)) X := by
  rw [ev, wp_bind]
  refine wp_ext fun x ρ1 => ?_
  cases x <;> rfl
theorem wp_ifb {b : Bool} {r : R α} {Q : α → Ev → Prop} : (if b = true then r else .bad).wp Q X = If b (r.wp Q X) := by
  cases b <;> simp [If, R.wp]
theorem if_ext {b : Bool} {A B : Prop} (h : A = B) : If b A = If b B := by subst h; rfl
theorem w_tup {es : List E} : (ev C (.tup es) ρ).wp Q X = (eds C es ρ).wp (fun xs ρ1 => If (decide (xs.length ≤ sizeLine)) (Q (.d (.tuple xs)) ρ1)) X := by
  rw [ev, wp_bind]
  refine wp_ext fun xs ρ1 => ?_
  rw [wp_ifb]; rfl
theorem w_fr {o : E} : (ev C (.fr o) ρ).wp Q X = (eo C o ρ).wp (fun xs ρ1 => Q (.d (.list xs)) ρ1) X := by rw [ev, wp_bind]; rfl
theorem w_callV {f : Str} {vs : List VV} {Q : Ret → Ev → Prop} : (callV C f vs ρ).wp Q X = OnO (takeA vs ρ 0) fun as => (C f as).wp (fun r o => OnO (putA vs o ρ) fun ρ' => Q r ρ') (fun x o => OnO (putA vs o ρ) fun ρ' => X x ρ') := by
  unfold callV
  cases takeA vs ρ 0 with
  | none => rfl
  | some as =>
    show R.wp (match C f as with
      | .ok r outs => match putA vs outs ρ with
        | some ρ' => .ok r ρ'
        | none => .bad
      | .err x outs => match putA vs outs ρ with
        | some ρ' => .err x ρ'
        | none => .bad
      | .bad => .bad) Q X = RC.wp (C f as) _ _
    cases C f as with
    | ok r o =>
      show R.wp (match putA vs o ρ with
        | some ρ' => .ok r ρ'
        | none => .bad) Q X = OnO (putA vs o ρ) _
      cases putA vs o ρ <;> rfl
    | err r o =>
      show R.wp (match putA vs o ρ with
        | some ρ' => .err r ρ'
        | none => .bad) Q X = OnO (putA vs o ρ) _
      cases putA vs o ρ <;> rfl
    | bad => rfl
theorem w_call {f : Str} {es : List E} : (ev C (.call f es) ρ).wp Q X = (evs C es ρ).wp (fun vs ρ1 => (callV C f vs ρ1).wp (fun r ρ2 => Q (.d r.dat) ρ2) X) X := by
  rw [ev, wp_bind]
  refine wp_ext fun vs ρ1 => ?_
  rw [wp_bind]; rfl
theorem w_callk {f : Str} {es : List E} {pm : List Nat} : (ev C (.callk f es pm) ρ).wp Q X = (evs C es ρ).wp (fun vs ρ1 => (callV C f (pm.map fun i => vs.getD i (.d .none)) ρ1).wp (fun r ρ2 => Q (.d r.dat) ρ2) X) X := by
  rw [ev, wp_bind]
  refine wp_ext fun vs ρ1 => ?_
  rw [wp_bind]; rfl
theorem w_ix {a b : E} : (ev C (.ix a b) ρ).wp Q X = (ev C a ρ).wp (fun x ρ1 => (ev C b ρ1).wp (fun y ρ2 => OnD y fun y => OnO (val ρ2 x) fun x => OnO (ixD x y) fun z => Q (.d z) ρ2) X) X := by
  rw [ev, wp_bind]
  refine wp_ext fun x ρ1 => ?_
  rw [w_d1]
  refine wp_ext fun y ρ2 => ?_
  cases y with
  | ref n => rfl
  | d y =>
    show ((opt (val ρ2 x) ρ2).bind _).wp Q X = _
    rw [wp_bind, wp_opt]
    cases val ρ2 x with
    | none => rfl
    | some x' => show ((opt (ixD x' y) ρ2).bind _).wp Q X = _; rw [wp_bind, wp_opt]; rfl
theorem w_bi {b : Bi} {es : List E} : (ev C (.bi b es) ρ).wp Q X = (evs C es ρ).wp (fun vs ρ1 => OnO (vals ρ1 vs) fun ds => OnO (biD b ds) fun z => Q (.d z) ρ1) X := by
  rw [ev, wp_bind]
  refine wp_ext fun vs ρ1 => ?_
  rw [wp_bind, wp_opt]
  cases vals ρ1 vs with
  | none => rfl
  | some ds => show ((opt (biD b ds) ρ1).bind _).wp Q X = _; rw [wp_bind, wp_opt]; rfl
theorem w_isi {e : E} {t : Ty} : (ev C (.isi e t) ρ).wp Q X = (ev C e ρ).wp (fun x ρ1 => OnD x fun x => If (kindD x) (Q (.d (.bool (isiD x t))) ρ1)) X := by
  rw [ev, w_d1]
  refine wp_ext fun x ρ1 => ?_
  cases x with
  | ref n => rfl
  | d x => show (if kindD x = true then _ else _ : R VV).wp Q X = _; rw [wp_ifb]; rfl
theorem w_app {o e : E} : (ev C (.app o e) ρ).wp Q X = (ev C o ρ).wp (fun x ρ1 => OnR x fun n => OnO (val ρ1 (.ref n)) fun _ => (ev C e ρ1).wp (fun y ρ2 => OnD y fun y => OnO (appE ρ2 n y) fun ρ3 => Q (.d .none) ρ3) X) X := by
  rw [ev, wp_bind]
  refine wp_ext fun x ρ1 => ?_
  cases x with
  | d x => rfl
  | ref n =>
    show ((opt (val ρ1 (.ref n)) ρ1).bind _).wp Q X = _
    rw [wp_bind, wp_opt]
    show OnO _ _ = OnO _ _
    cases val ρ1 (.ref n) with
    | none => rfl
    | some z =>
      show (((ev C e ρ1).bind dR).bind _).wp Q X = _
      rw [w_d1]
      refine wp_ext fun y ρ2 => ?_
      cases y with
      | ref n => rfl
      | d y => show ((opt (appE ρ2 n y) ρ2).bind _).wp Q X = _; rw [wp_bind, wp_opt]; rfl
/-! new lists -/
theorem o_lst {es : List E} : (eo C (.lst es) ρ).wp QO X = (eds C es ρ).wp (fun xs ρ1 => If (decide (xs.length ≤ sizeLine)) (QO xs ρ1)) X := by
  rw [eo, wp_bind]
  refine wp_ext fun xs ρ1 => ?_
  rw [wp_ifb]; rfl
theorem o_rep {es : List E} {n : E} : (eo C (.rep es n) ρ).wp QO X = (eds C es ρ).wp (fun xs ρ1 => If (decide (xs.length ≤ sizeLine)) ((ev C n ρ1).wp (fun k ρ2 => OnD k fun k => OnI k fun i => If (IR.small i && decide (xs.length * i.toNat ≤ sizeLine)) (QO (repL xs i.toNat) ρ2)) X)) X := by
  rw [eo, wp_bind]
  refine wp_ext fun xs ρ1 => ?_
  rw [wp_ifb]
  have e : (((ev C n ρ1).bind dR).bind fun k ρ2 => match k with
    | .int i => if (IR.small i && decide (xs.length * i.toNat ≤ sizeLine)) = true then R.ok (repL xs i.toNat) ρ2 else .bad
    | _ => .bad).wp QO X = (ev C n ρ1).wp (fun k ρ2 => OnD k fun k => OnI k fun i => If (IR.small i && decide (xs.length * i.toNat ≤ sizeLine)) (QO (repL xs i.toNat) ρ2)) X := by
    rw [w_d1]
    refine wp_ext fun k ρ2 => ?_
    cases k with
    | ref n => rfl
    | d k => cases k with
      | int i => show (if _ then _ else _ : R (List D)).wp QO X = _; rw [wp_ifb]; rfl
      | _ => rfl
  exact if_ext e
theorem o_slice {a : E} {lo hi : Option E} : (eo C (.slice a lo hi) ρ).wp QO X = (ev C a ρ).wp (fun x ρ1 => (ep C lo ρ1).wp (fun l ρ2 => (ep C hi ρ2).wp (fun u ρ3 => OnO (val ρ3 x) fun x => OnO (lstD x) fun xs => QO (Dl.cutD xs l u) ρ3) X) X) X := by
  rw [eo, wp_bind]
  refine wp_ext fun x ρ1 => ?_
  rw [wp_bind]
  refine wp_ext fun l ρ2 => ?_
  rw [wp_bind]
  refine wp_ext fun u ρ3 => ?_
  rw [wp_bind, wp_opt]
  cases val ρ3 x with
  | none => rfl
  | some x' => show ((opt (lstD x') ρ3).bind _).wp QO X = _; rw [wp_bind, wp_opt]; rfl
theorem o_lof {a : E} : (eo C (.lof a) ρ).wp QO X = (ev C a ρ).wp (fun x ρ1 => OnO (val ρ1 x) fun x => OnO (seqD x) fun xs => QO xs ρ1) X := by
  rw [eo, wp_bind]
  refine wp_ext fun x ρ1 => ?_
  rw [wp_bind, wp_opt]
  cases val ρ1 x with
  | none => rfl
  | some x' => show (opt (seqD x') ρ1).wp QO X = _; rw [wp_opt]; rfl
theorem o_lzip {a b : E} : (eo C (.lzip a b) ρ).wp QO X = (ev C a ρ).wp (fun x ρ1 => OnD x fun x => (ev C b ρ1).wp (fun y ρ2 => OnD y fun y => OnO (lstD x) fun xs => OnO (lstD y) fun ys => If (decide (xs.length < sizeLine)) (QO (zipD xs ys) ρ2)) X) X := by
  rw [eo, w_d1]
  refine wp_ext fun x ρ1 => ?_
  cases x with
  | ref n => rfl
  | d x =>
    show (((ev C b ρ1).bind dR).bind _).wp QO X = _
    rw [w_d1]
    refine wp_ext fun y ρ2 => ?_
    cases y with
    | ref n => rfl
    | d y =>
      show ((opt (lstD x) ρ2).bind _).wp QO X = _
      rw [wp_bind, wp_opt]
      show OnO _ _ = OnO _ _
      cases lstD x with
      | none => rfl
      | some xs =>
        show ((opt (lstD y) ρ2).bind _).wp QO X = _
        rw [wp_bind, wp_opt]
        show OnO _ _ = OnO _ _
        cases lstD y with
        | none => rfl
        | some ys => show (if _ then _ else _ : R (List D)).wp QO X = _; rw [wp_ifb]; rfl
theorem o_lc {tg : Tg} {it elt : E} {ifs : List E} {vs : List Nat} : (eo C (.lc tg it ifs elt vs) ρ).wp QO X = (ei C it ρ).wp (fun xs ρ1 => If (vs.all fun i => plainS (ρ1.getD i .un)) ((lcV (fun ρ => tvL C ifs ρ) (fun ρ => (ev C elt ρ).bind dR) tg vs ρ1 xs [] (wipeE ρ1 vs)).wp QO X)) X := by
  rw [eo, wp_bind]
  refine wp_ext fun xs ρ1 => ?_
  rw [wp_ifb]
theorem o_call {f : Str} {es : List E} : (eo C (.call f es) ρ).wp QO X = (evs C es ρ).wp (fun vs ρ1 => (callV C f vs ρ1).wp (fun r ρ2 => OnW r fun xs => QO xs ρ2) X) X := by
  rw [eo, wp_bind]
  refine wp_ext fun vs ρ1 => ?_
  rw [wp_bind]
  refine wp_ext fun r ρ2 => ?_
  cases r <;> rfl
theorem o_callk {f : Str} {es : List E} {pm : List Nat} : (eo C (.callk f es pm) ρ).wp QO X = (evs C es ρ).wp (fun vs ρ1 => (callV C f (pm.map fun i => vs.getD i (.d .none)) ρ1).wp (fun r ρ2 => OnW r fun xs => QO xs ρ2) X) X := by
  rw [eo, wp_bind]
  refine wp_ext fun vs ρ1 => ?_
  rw [wp_bind]
  refine wp_ext fun r ρ2 => ?_
  cases r <;> rfl
/-! several -/
theorem vs_nil {Q : List VV → Ev → Prop} : (evs C [] ρ).wp Q X = Q [] ρ := by rw [evs]; rfl
theorem vs_cons {e : E} {es : List E} {Q : List VV → Ev → Prop} : (evs C (e :: es) ρ).wp Q X = (ev C e ρ).wp (fun x ρ1 => (evs C es ρ1).wp (fun xs ρ2 => Q (x :: xs) ρ2) X) X := by
  rw [evs, wp_bind]; exact wp_ext fun x ρ1 => by rw [wp_bind]; rfl
theorem ds_nil {Q : List D → Ev → Prop} : (eds C [] ρ).wp Q X = Q [] ρ := by rw [eds]; rfl
theorem ds_cons {e : E} {es : List E} {Q : List D → Ev → Prop} : (eds C (e :: es) ρ).wp Q X = (ev C e ρ).wp (fun x ρ1 => OnD x fun x => (eds C es ρ1).wp (fun xs ρ2 => Q (x :: xs) ρ2) X) X := by
  rw [eds, w_d1]
  refine wp_ext fun x ρ1 => ?_
  cases x with
  | ref n => rfl
  | d x => show ((eds C es ρ1).bind _).wp Q X = _; rw [wp_bind]; rfl
theorem ep_none {Q : Option Int → Ev → Prop} : (ep C none ρ).wp Q X = Q none ρ := by rw [ep]; rfl
theorem ep_some {e : E} {Q : Option Int → Ev → Prop} : (ep C (some e) ρ).wp Q X = (ev C e ρ).wp (fun x ρ1 => OnD x fun x => OnI x fun i => Q (some i) ρ1) X := by
  rw [ep, w_d1]
  refine wp_ext fun x ρ1 => ?_
  cases x with
  | ref n => rfl
  | d x => cases x <;> rfl
theorem sl_nil {Q : List Sl → Ev → Prop} : (esl C [] ρ).wp Q X = Q [] ρ := by rw [esl]; rfl
theorem sl_t {e : E} {es : List (Bool × E)} {Q : List Sl → Ev → Prop} : (esl C ((true, e) :: es) ρ).wp Q X = (eo C e ρ).wp (fun x ρ1 => (esl C es ρ1).wp (fun xs ρ2 => Q (.ow x :: xs) ρ2) X) X := by
  rw [esl, wp_bind]; exact wp_ext fun x ρ1 => by rw [wp_bind]; rfl
theorem sl_f {e : E} {es : List (Bool × E)} {Q : List Sl → Ev → Prop} : (esl C ((false, e) :: es) ρ).wp Q X = (ev C e ρ).wp (fun x ρ1 => OnD x fun x => (esl C es ρ1).wp (fun xs ρ2 => Q (.v x :: xs) ρ2) X) X := by
  rw [esl]
  unfold ed
  rw [w_d1]
  refine wp_ext fun x ρ1 => ?_
  cases x with
  | ref n => rfl
  | d x => show ((esl C es ρ1).bind _).wp Q X = _; rw [wp_bind]; rfl
/-! tests -/
theorem t_and {a b : E} : (tv C (.and a b) ρ).wp QB X = (tv C a ρ).wp (fun t ρ1 => Br t ((tv C b ρ1).wp QB X) (QB false ρ1)) X := by
  rw [tv, wp_bind]
  refine wp_ext fun x ρ1 => ?_
  cases x <;> rfl
theorem t_or {a b : E} : (tv C (.or a b) ρ).wp QB X = (tv C a ρ).wp (fun t ρ1 => Br t (QB true ρ1) ((tv C b ρ1).wp QB X)) X := by
  rw [tv, wp_bind]
  refine wp_ext fun x ρ1 => ?_
  cases x <;> rfl
theorem t_not {a : E} : (tv C (.not a) ρ).wp QB X = (tv C a ρ).wp (fun t ρ1 => QB (!t) ρ1) X := by rw [tv, wp_bind]; rfl
theorem t_tru {a : E} : (tv C (.tru a) ρ).wp QB X = (ev C a ρ).wp (fun x ρ1 => OnO (val ρ1 x) fun x => OnO (truth x) fun b => QB b ρ1) X := by
  rw [tv, wp_bind]
  refine wp_ext fun x ρ1 => ?_
  rw [wp_bind, wp_opt]
  cases val ρ1 x with
  | none => rfl
  | some x' => show (opt (truth x') ρ1).wp QB X = _; rw [wp_opt]; rfl
theorem tl_nil : (tvL C [] ρ).wp QB X = QB true ρ := by rw [tvL]; rfl
theorem tl_one {c : E} : (tvL C [c] ρ).wp QB X = (tv C c ρ).wp QB X := by rw [tvL]
/-! walks -/
theorem i_over {a : E} : (ei C (.over a) ρ).wp QO X = (ev C a ρ).wp (fun x ρ1 => OnD x fun x => OnO (seqD x) fun xs => QO xs ρ1) X := by
  rw [ei, w_d1]
  refine wp_ext fun x ρ1 => ?_
  cases x with
  | ref n => rfl
  | d x => show (opt (seqD x) ρ1).wp QO X = _; rw [wp_opt]; rfl
theorem i_rng1 {a : E} : (ei C (.rng1 a) ρ).wp QO X = (ev C a ρ).wp (fun x ρ1 => OnD x fun x => OnI x fun j => If (IR.small j) (QO (rngV 0 j.toNat) ρ1)) X := by
  rw [ei, w_d1]
  refine wp_ext fun x ρ1 => ?_
  cases x with
  | ref n => rfl
  | d x => cases x with
    | int j => show (if _ then _ else _ : R (List D)).wp QO X = _; rw [wp_ifb]; rfl
    | _ => rfl
theorem i_rng2 {a b : E} : (ei C (.rng2 a b) ρ).wp QO X = (ev C a ρ).wp (fun x ρ1 => OnD x fun x => (ev C b ρ1).wp (fun y ρ2 => OnD y fun y => OnI x fun i => OnI y fun j => If (IR.small i && IR.small j) (QO (rngV i (j - i).toNat) ρ2)) X) X := by
  rw [ei, w_d1]
  refine wp_ext fun x ρ1 => ?_
  cases x with
  | ref n => rfl
  | d x =>
    show (((ev C b ρ1).bind dR).bind _).wp QO X = _
    rw [w_d1]
    refine wp_ext fun y ρ2 => ?_
    cases y with
    | ref n => rfl
    | d y => cases x with
      | int i => cases y with
        | int j => show (if _ then _ else _ : R (List D)).wp QO X = _; rw [wp_ifb]; rfl
        | _ => rfl
      | _ => cases y <;> rfl
theorem i_rng3 {a b c : E} : (ei C (.rng3 a b c) ρ).wp QO X = (ev C a ρ).wp (fun x ρ1 => OnD x fun x => (ev C b ρ1).wp (fun y ρ2 => OnD y fun y => (ev C c ρ2).wp (fun z ρ3 => OnD z fun z => OnI x fun i => OnI y fun j => OnI z fun k => If (IR.small i && IR.small j && decide (k = -1)) (QO (rngC i (-1) (i - j).toNat) ρ3)) X) X) X := by
  rw [ei, w_d1]
  refine wp_ext fun x ρ1 => ?_
  cases x with
  | ref n => rfl
  | d x =>
    show (((ev C b ρ1).bind dR).bind _).wp QO X = _
    rw [w_d1]
    refine wp_ext fun y ρ2 => ?_
    cases y with
    | ref n => rfl
    | d y =>
      show (((ev C c ρ2).bind dR).bind _).wp QO X = _
      rw [w_d1]
      refine wp_ext fun z ρ3 => ?_
      cases z with
      | ref n => rfl
      | d z => cases x with
        | int i => cases y with
          | int j => cases z with
            | int k => show (if _ then _ else _ : R (List D)).wp QO X = _; rw [wp_ifb]; rfl
            | _ => rfl
          | _ => cases z <;> rfl
        | _ => cases y <;> cases z <;> rfl
theorem i_zip {a b : E} : (ei C (.zip a b) ρ).wp QO X = (ev C a ρ).wp (fun x ρ1 => OnD x fun x => (ev C b ρ1).wp (fun y ρ2 => OnD y fun y => OnO (lstD x) fun xs => OnO (lstD y) fun ys => QO (zipD xs ys) ρ2) X) X := by
  rw [ei, w_d1]
  refine wp_ext fun x ρ1 => ?_
  cases x with
  | ref n => rfl
  | d x =>
    show (((ev C b ρ1).bind dR).bind _).wp QO X = _
    rw [w_d1]
    refine wp_ext fun y ρ2 => ?_
    cases y with
    | ref n => rfl
    | d y =>
      show ((opt (lstD x) ρ2).bind _).wp QO X = _
      rw [wp_bind, wp_opt]
      show OnO _ _ = OnO _ _
      cases lstD x with
      | none => rfl
      | some xs =>
        show ((opt (lstD y) ρ2).bind _).wp QO X = _
        rw [wp_bind, wp_opt]; rfl
theorem i_enum {a : E} : (ei C (.enum a none) ρ).wp QO X = (ev C a ρ).wp (fun x ρ1 => OnD x fun x => OnO (lstD x) fun xs => QO (enumD xs 0) ρ1) X := by
  rw [ei, w_d1]
  refine wp_ext fun x ρ1 => ?_
  cases x with
  | ref n => rfl
  | d x => show ((opt (lstD x) ρ1).bind _).wp QO X = _; rw [wp_bind, wp_opt]; rfl
/-! statements -/
theorem s_nil : (exs C [] ρ).wp S = S.nx ρ := by rw [exs]; rfl
def Sk.thn (S : Sk) (C : Str → List Sl → RC) (ss : List VM.S) : Sk := ⟨fun ρ1 => (exs C ss ρ1).wp S, S.rt, S.ro, S.bk, S.ct, S.xx⟩
theorem s_tnx {ss : List VM.S} : (S.thn C ss).nx ρ = (exs C ss ρ).wp S := id rfl
theorem s_trt {ss : List VM.S} {v : D} : (S.thn C ss).rt v ρ = S.rt v ρ := id rfl
theorem s_tro {ss : List VM.S} {v : List D} : (S.thn C ss).ro v ρ = S.ro v ρ := id rfl
theorem s_tbk {ss : List VM.S} : (S.thn C ss).bk ρ = S.bk ρ := id rfl
theorem s_tct {ss : List VM.S} : (S.thn C ss).ct ρ = S.ct ρ := id rfl
theorem s_txx {ss : List VM.S} : (S.thn C ss).xx = S.xx := id rfl
theorem s_cons {s : VM.S} {ss : List VM.S} : (exs C (s :: ss) ρ).wp S = (ex C s ρ).wp (S.thn C ss) := by
  rw [exs]
  cases ex C s ρ <;> rfl
theorem wp_mO {o : Option Ev} : (match o with | some ρ2 => RS.next ρ2 | none => RS.bad).wp S = OnO o fun ρ2 => S.nx ρ2 := by cases o <;> rfl
theorem s_dS {e : E} {f : D → Ev → RS} : ((ed C e ρ).bindS f).wp S = (ev C e ρ).wp (fun x ρ1 => OnD x fun x => (f x ρ1).wp S) S.xx := by
  unfold ed
  rw [wp_bindS, wp_bind]
  refine wp_ext fun x ρ1 => ?_
  rw [wp_dR]
theorem s_frz {is : List Nat} : (ex C (.frz is) ρ).wp S = OnO (frzEs is ρ) fun ρ1 => S.nx ρ1 := by rw [ex]; exact wp_mO
theorem s_set {i : Nat} {e : E} : (ex C (.set i e) ρ).wp S = (ev C e ρ).wp (fun x ρ1 => OnD x fun x => OnO (setE ρ1 i (.v x)) fun ρ2 => S.nx ρ2) S.xx := by
  rw [ex, s_dS]
  refine wp_ext fun x ρ1 => ?_
  cases x with
  | ref n => rfl
  | d x => rfl
theorem s_seto {i : Nat} {e : E} : (ex C (.seto i e) ρ).wp S = (eo C e ρ).wp (fun x ρ1 => OnO (setE ρ1 i (.ow x)) fun ρ2 => S.nx ρ2) S.xx := by
  rw [ex, wp_bindS]
  exact wp_ext fun x ρ1 => rfl
theorem s_par {is : List Nat} {es : List (Bool × E)} : (ex C (.par is es) ρ).wp S = (esl C es ρ).wp (fun xs ρ1 => OnO (setAll is xs ρ1) fun ρ2 => S.nx ρ2) S.xx := by
  rw [ex, wp_bindS]
  exact wp_ext fun x ρ1 => wp_mO
theorem s_tset {tg : Tg} {e : E} : (ex C (.tset tg e) ρ).wp S = (ev C e ρ).wp (fun x ρ1 => OnD x fun x => OnO (asgT tg x ρ1) fun ρ2 => S.nx ρ2) S.xx := by
  rw [ex, s_dS]
  refine wp_ext fun x ρ1 => ?_
  cases x with
  | ref n => rfl
  | d x => exact wp_mO
theorem s_setix {o i e : E} : (ex C (.setix o i e) ρ).wp S = (ev C e ρ).wp (fun v ρ1 => OnD v fun v => (ev C o ρ1).wp (fun x ρ2 => (ev C i ρ2).wp (fun y ρ3 => OnD y fun y => OnO (setixE ρ3 x y v) fun ρ4 => S.nx ρ4) S.xx) S.xx) S.xx := by
  rw [ex, s_dS]
  refine wp_ext fun x ρ1 => ?_
  cases x with
  | ref n => rfl
  | d v =>
    show ((ev C o ρ1).bindS _).wp S = _
    rw [wp_bindS]
    refine wp_ext fun x ρ2 => ?_
    rw [s_dS]
    refine wp_ext fun y ρ3 => ?_
    cases y with
    | ref n => rfl
    | d y => exact wp_mO
theorem s_ife {c : E} {a b : List VM.S} : (ex C (.ife c a b) ρ).wp S = (tv C c ρ).wp (fun t ρ1 => Br t ((exs C a ρ1).wp S) ((exs C b ρ1).wp S)) S.xx := by
  rw [ex, wp_bindS]
  refine wp_ext fun x ρ1 => ?_
  cases x <;> rfl
theorem s_for {tg : Tg} {it : E} {body : List VM.S} : (ex C (.forS tg it body) ρ).wp S = (ei C it ρ).wp (fun xs ρ1 => (forV (fun ρ => exs C body ρ) tg xs ρ1).wp S) S.xx := by rw [ex, wp_bindS]
theorem s_ret {e : E} : (ex C (.ret e) ρ).wp S = (ev C e ρ).wp (fun x ρ1 => OnD x fun x => S.rt x ρ1) S.xx := by
  rw [ex, s_dS]
  refine wp_ext fun x ρ1 => ?_
  cases x <;> rfl
def slO (s : Sl) (Q : List D → Prop) (_ : Hid Q := ()) : Prop := match s with
  | .ow xs => Q xs
  | _ => False
theorem slO_ow {d : List D} {Q : List D → Prop} : slO (.ow d) Q = Q d := id rfl
theorem s_rets {i : Nat} : (ex C (.rets i) ρ).wp S = At ρ i fun s => slO s fun xs => S.ro xs (ρ.set i .un) := by
  unfold At
  rw [ex]
  generalize ρ[i]? = o
  rcases o with _ | s
  · rfl
  · cases s <;> rfl
theorem s_reto {e : E} : (ex C (.reto e) ρ).wp S = (eo C e ρ).wp (fun xs ρ1 => S.ro xs ρ1) S.xx := by rw [ex, wp_bindS]; rfl
theorem s_retN : (ex C .retN ρ).wp S = S.rt .none ρ := by rw [ex]; rfl
theorem s_expr {e : E} : (ex C (.expr e) ρ).wp S = (ev C e ρ).wp (fun x ρ1 => S.nx ρ1) S.xx := by rw [ex, wp_bindS]; rfl
theorem s_pass : (ex C .pass ρ).wp S = S.nx ρ := by rw [ex]; rfl
theorem s_brk : (ex C .brk ρ).wp S = S.bk ρ := by rw [ex]; rfl
theorem s_cont : (ex C .cont ρ).wp S = S.ct ρ := by rw [ex]; rfl
/-! loops, by an invariant -/
theorem for_inv {body : Ev → RS} {tg : Tg} {xs : List D} (Iv : List D → Ev → Prop) (h0 : Iv [] ρ)
    (hs : ∀ pre x post ρ, xs = pre ++ x :: post → Iv pre ρ → ∃ ρ1, asgT tg x ρ = some ρ1 ∧ (body ρ1).wp ⟨Iv (pre ++ [x]), S.rt, S.ro, S.nx, Iv (pre ++ [x]), S.xx⟩) (hd : ∀ ρ, Iv xs ρ → S.nx ρ) : (forV body tg xs ρ).wp S := by
  have main : ∀ (post pre : List D) ρ, xs = pre ++ post → Iv pre ρ → (forV body tg post ρ).wp S := by
    intro post
    induction post with
    | nil =>
      intro pre ρ e iv
      rw [List.append_nil] at e; subst e
      exact hd ρ iv
    | cons x post ih =>
      intro pre ρ e iv
      obtain ⟨ρ1, e1, b⟩ := hs pre x post ρ e iv
      rw [forV]
      simp only [e1]
      cases eb : body ρ1 with
      | next ρ2 => rw [eb] at b; exact ih (pre ++ [x]) ρ2 (by rw [e]; simp) b
      | cont ρ2 => rw [eb] at b; exact ih (pre ++ [x]) ρ2 (by rw [e]; simp) b
      | brk ρ2 => rw [eb] at b; exact b
      | ret v ρ2 => rw [eb] at b; exact b
      | reto v ρ2 => rw [eb] at b; exact b
      | err _ _ => rw [eb] at b; exact b
      | bad => rw [eb] at b; exact b
  exact main xs [] ρ rfl h0
theorem for_map {γ : Type} (f : γ → D) {xs : List γ} {body : Ev → RS} {tg : Tg} (Iv : List γ → Ev → Prop) (h0 : Iv [] ρ)
    (hs : ∀ us u ws ρ, xs = us ++ u :: ws → Iv us ρ → ∃ ρ1, asgT tg (f u) ρ = some ρ1 ∧ (body ρ1).wp ⟨Iv (us ++ [u]), S.rt, S.ro, S.nx, Iv (us ++ [u]), S.xx⟩) (hd : ∀ ρ, Iv xs ρ → S.nx ρ) : (forV body tg (xs.map f) ρ).wp S := by
  have main : ∀ (post pre : List γ) ρ, xs = pre ++ post → Iv pre ρ → (forV body tg (post.map f) ρ).wp S := by
    intro post
    induction post with
    | nil =>
      intro pre ρ e iv
      rw [List.append_nil] at e; subst e
      exact hd ρ iv
    | cons x post ih =>
      intro pre ρ e iv
      obtain ⟨ρ1, e1, b⟩ := hs pre x post ρ e iv
      rw [List.map_cons, forV]
      simp only [e1]
      cases eb : body ρ1 with
      | next ρ2 => rw [eb] at b; exact ih (pre ++ [x]) ρ2 (by rw [e]; simp) b
      | cont ρ2 => rw [eb] at b; exact ih (pre ++ [x]) ρ2 (by rw [e]; simp) b
      | brk ρ2 => rw [eb] at b; exact b
      | ret v ρ2 => rw [eb] at b; exact b
      | reto v ρ2 => rw [eb] at b; exact b
      | err _ _ => rw [eb] at b; exact b
      | bad => rw [eb] at b; exact b
  exact main xs [] ρ rfl h0
theorem for_rng {n : Nat} {body : Ev → RS} {tg : Tg} (Iv : Nat → Ev → Prop) (h0 : Iv 0 ρ)
    (hs : ∀ k ρ, k < n → Iv k ρ → ∃ ρ1, asgT tg (.int k) ρ = some ρ1 ∧ (body ρ1).wp ⟨Iv (k + 1), S.rt, S.ro, S.nx, Iv (k + 1), S.xx⟩) (hd : ∀ ρ, Iv n ρ → S.nx ρ) : (forV body tg (rngV 0 n) ρ).wp S := by
  refine for_map (fun k : Nat => PyData.int (0 + (k : Nat))) (xs := List.range n) (fun us ρ => Iv us.length ρ) h0 (fun us u ws ρ e i => ?_) (fun ρ i => hd ρ (by rw [List.length_range] at i; exact i))
  have hl : us.length < n := by have := congrArg List.length e; simp at this; omega
  have eu : u = us.length := by
    have := congrArg (fun l => l[us.length]?) e
    simp [List.getElem?_range hl] at this; exact this.symm
  subst eu
  obtain ⟨ρ1, g1, g2⟩ := hs us.length ρ hl i
  refine ⟨ρ1, by rw [Int.zero_add]; exact g1, ?_⟩
  rw [List.length_append, List.length_singleton]; exact g2
theorem lc_inv {γ : Type} (g : γ → D) {cond : Ev → R Bool} {elt : Ev → R D} {tg : Tg} {vs : List Nat} {ρ0 : Ev} {xs : List γ} (Iv : List γ → List D → Ev → Prop) (h0 : Iv [] [] ρ) (hst : ∀ pre acc ρ, Iv pre acc ρ → acc.length < sizeLine)
    (hs : ∀ us u ws acc ρ, xs = us ++ u :: ws → Iv us acc ρ → ∃ ρ1, asgT tg (g u) ρ = some ρ1 ∧ (cond ρ1).wp (fun b ρ2 => Br b ((elt ρ2).wp (fun v ρ3 => Iv (us ++ [u]) (acc ++ [v]) (wipeE ρ3 vs)) (fun _ _ => False)) (Iv (us ++ [u]) acc (wipeE ρ2 vs))) (fun _ _ => False)) (hd : ∀ acc ρ, Iv xs acc ρ → QO acc (restE ρ0 ρ vs)) : (lcV cond elt tg vs ρ0 (xs.map g) [] ρ).wp QO X := by
  have main : ∀ (post pre : List γ) acc ρ, xs = pre ++ post → Iv pre acc ρ → (lcV cond elt tg vs ρ0 (post.map g) acc ρ).wp QO X := by
    intro post
    induction post with
    | nil =>
      intro pre acc ρ e iv
      rw [List.append_nil] at e; subst e
      exact hd acc ρ iv
    | cons x post ih =>
      intro pre acc ρ e iv
      rw [List.map_cons, lcV, if_pos (by simpa using hst _ _ _ iv)]
      obtain ⟨ρ1, e1, b⟩ := hs pre x post acc ρ e iv
      simp only [e1]
      cases eb : cond ρ1 with
      | ok t ρ2 =>
        rw [eb] at b
        cases t with
        | false => exact ih (pre ++ [x]) acc _ (by rw [e]; simp) b
        | true =>
          simp only
          have b' : (elt ρ2).wp (fun v ρ3 => Iv (pre ++ [x]) (acc ++ [v]) (wipeE ρ3 vs)) (fun _ _ => False) := b
          cases ee : elt ρ2 with
          | ok v ρ3 => rw [ee] at b'; exact ih (pre ++ [x]) (acc ++ [v]) _ (by rw [e]; simp) b'
          | err _ _ => rw [ee] at b'; exact b'.elim
          | bad => rw [ee] at b'; exact b'.elim
      | err _ _ => rw [eb] at b; exact b.elim
      | bad => rw [eb] at b; exact b.elim
  exact main xs [] [] ρ rfl h0
/-- a comprehension without effects -/
theorem lc_map {γ : Type} (g : γ → D) {cond : Ev → R Bool} {elt : Ev → R D} {tg : Tg} {vs : List Nat} {ρ0 : Ev} {xs : List γ} (p : γ → Bool) (f : γ → D) (hl : xs.length ≤ 100000)
    (hs : ∀ u ∈ xs, ∃ ρ1, asgT tg (g u) ρ = some ρ1 ∧ wipeE ρ1 vs = ρ ∧ (cond ρ1).wp (fun b ρ2 => b = p u ∧ ρ2 = ρ1 ∧ (b = true → (elt ρ1).wp (fun v ρ3 => v = f u ∧ ρ3 = ρ1) (fun _ _ => False))) (fun _ _ => False)) (hd : QO ((xs.filter p).map f) (restE ρ0 ρ vs)) : (lcV cond elt tg vs ρ0 (xs.map g) [] ρ).wp QO X := by
  refine lc_inv g (fun us acc ρ' => ρ' = ρ ∧ acc = (us.filter p).map f ∧ us.length ≤ xs.length) ⟨rfl, rfl, Nat.zero_le _⟩ ?_ ?_ ?_
  · rintro us acc ρ' ⟨rfl, rfl, h⟩
    rw [List.length_map]
    exact Nat.lt_of_le_of_lt (Nat.le_trans (List.length_filter_le p us) (Nat.le_trans h hl)) (by decide : 100000 < sizeLine)
  · rintro us u ws acc ρ' e ⟨rfl, rfl, h⟩
    obtain ⟨ρ1, e1, e2, z⟩ := hs u (by rw [e]; simp)
    have hl3 : (us ++ [u]).length ≤ xs.length := by rw [e]; simp
    refine ⟨ρ1, e1, wp_mono z fun b ρ2 ⟨eb, eh, k⟩ => ?_⟩
    subst eh
    cases b with
    | true =>
      refine IR.br_yes rfl (wp_mono (k rfl) fun v ρ3 ⟨ev, eh⟩ => ?_)
      subst eh
      refine ⟨e2, ?_, hl3⟩
      rw [ev, List.filter_append, List.map_append]
      simp [← eb]
    | false =>
      refine IR.br_no rfl ⟨e2, ?_, hl3⟩
      rw [List.filter_append, List.map_append]
      simp [← eb]
  · rintro acc ρ' ⟨rfl, rfl, _⟩
    exact hd
/-! a def's run -/
theorem rs_mono {r : RS} {S S' : Sk} (p : r.wp S) (h1 : ∀ ρ, S.nx ρ → S'.nx ρ) (h2 : ∀ d ρ, S.rt d ρ → S'.rt d ρ) (h3 : ∀ d ρ, S.ro d ρ → S'.ro d ρ) (h4 : ∀ ρ, S.bk ρ → S'.bk ρ) (h5 : ∀ ρ, S.ct ρ → S'.ct ρ) (h6 : ∀ x ρ, S.xx x ρ → S'.xx x ρ) : r.wp S' := by
  cases r with
  | next ρ => exact h1 _ p
  | ret d ρ => exact h2 _ _ p
  | reto d ρ => exact h3 _ _ p
  | brk ρ => exact h4 _ p
  | cont ρ => exact h5 _ p
  | err x ρ => exact h6 _ _ p
  | bad => exact p
theorem wpc_ok {r : Ret} {o : List (List D)} {Q : Ret → List (List D) → Prop} {X : Exn → List (List D) → Prop} : (RC.ok r o).wp Q X = Q r o := id rfl
theorem wpc_err {x : Exn} {o : List (List D)} {Q : Ret → List (List D) → Prop} {X : Exn → List (List D) → Prop} : (RC.err x o).wp Q X = X x o := id rfl
theorem toC_nx {as : List Sl} {ρ : Ev} {Q : Ret → List (List D) → Prop} {X : Exn → List (List D) → Prop} : ((RS.next ρ).toC as).wp Q X = OnO (outsOf as ρ) fun o => Q (.d .none) o := by cases h : outsOf as ρ <;> (unfold RS.toC; dsimp only; rw [h]; rfl)
theorem toC_rt {as : List Sl} {d : D} {ρ : Ev} {Q : Ret → List (List D) → Prop} {X : Exn → List (List D) → Prop} : ((RS.ret d ρ).toC as).wp Q X = OnO (outsOf as ρ) fun o => Q (.d d) o := by cases h : outsOf as ρ <;> (unfold RS.toC; dsimp only; rw [h]; rfl)
theorem toC_ro {as : List Sl} {d : List D} {ρ : Ev} {Q : Ret → List (List D) → Prop} {X : Exn → List (List D) → Prop} : ((RS.reto d ρ).toC as).wp Q X = OnO (outsOf as ρ) fun o => Q (.ow d) o := by cases h : outsOf as ρ <;> (unfold RS.toC; dsimp only; rw [h]; rfl)
theorem toC_xx {as : List Sl} {x : Exn} {ρ : Ev} {Q : Ret → List (List D) → Prop} {X : Exn → List (List D) → Prop} : ((RS.err x ρ).toC as).wp Q X = OnO (outsOf as ρ) fun o => X x o := by cases h : outsOf as ρ <;> (unfold RS.toC; dsimp only; rw [h]; rfl)
theorem call_wp {T : Str → Option Fn} {k : Nat} {f : Str} {fn : Fn} {as : List Sl} {Q : Ret → List (List D) → Prop} {X : Exn → List (List D) → Prop} (hT : T f = some fn) (hl : as.length = fn.ps) (hn : fn.ps ≤ fn.n)
    (hb : (exs (call T k) fn.body (as ++ List.replicate (fn.n - fn.ps) .un)).wp ⟨fun ρ => OnO (outsOf as ρ) fun o => Q (.d .none) o, fun d ρ => OnO (outsOf as ρ) fun o => Q (.d d) o, fun xs ρ => OnO (outsOf as ρ) fun o => Q (.ow xs) o, fun _ => False, fun _ => False, fun x ρ => OnO (outsOf as ρ) fun o => X x o⟩) : (call T (k + 1) f as).wp Q X := by
  rw [call, hT]
  show (if as.length = fn.ps ∧ fn.ps ≤ fn.n then _ else _ : RC).wp Q X
  rw [if_pos ⟨hl, hn⟩]
  cases e : exs (call T k) fn.body (as ++ List.replicate (fn.n - fn.ps) .un) with
  | next ρ => rw [e] at hb; rw [toC_nx]; exact hb
  | ret d ρ => rw [e] at hb; rw [toC_rt]; exact hb
  | reto d ρ => rw [e] at hb; rw [toC_ro]; exact hb
  | brk ρ => rw [e] at hb; exact hb
  | cont ρ => rw [e] at hb; exact hb
  | err x ρ => rw [e] at hb; rw [toC_xx]; exact hb
  | bad => rw [e] at hb; exact hb
/-- an equation from a wish -/
theorem eq_of_wp {r : RC} {v : Ret} {o : List (List D)} (h : r.wp (fun a b => a = v ∧ b = o) (fun _ _ => False)) : r = .ok v o := by
  cases r with
  | ok a b => obtain ⟨rfl, rfl⟩ := (h : a = v ∧ b = o); rfl
  | err _ _ => exact h.elim
  | bad => exact h.elim
theorem onO_of {α : Type} {o : Option α} {x : α} {K : α → Prop} (e : o = some x) (k : K x) : OnO o K := by subst e; exact k
theorem call_mk {T : Str → Option Fn} {k : Nat} {f : Str} {fn : Fn} {as : List Sl} {v : D} {o : List (List D)} (hT : T f = some fn) (hl : as.length = fn.ps) (hn : fn.ps ≤ fn.n)
    (hb : (exs (call T k) fn.body (as ++ List.replicate (fn.n - fn.ps) .un)).wp ⟨fun ρ => v = .none ∧ outsOf as ρ = some o, fun d ρ => d = v ∧ outsOf as ρ = some o, fun _ _ => False, fun _ => False, fun _ => False, fun _ _ => False⟩) : call T (k + 1) f as = .ok (.d v) o :=
  eq_of_wp (call_wp hT hl hn (rs_mono hb (fun ρ ⟨e1, e2⟩ => onO_of e2 ⟨by rw [e1], rfl⟩) (fun d ρ ⟨e1, e2⟩ => onO_of e2 ⟨by rw [e1], rfl⟩) (fun _ _ z => z.elim) (fun _ z => z) (fun _ z => z) fun _ _ z => z.elim))
theorem call_mo {T : Str → Option Fn} {k : Nat} {f : Str} {fn : Fn} {as : List Sl} {v : List D} {o : List (List D)} (hT : T f = some fn) (hl : as.length = fn.ps) (hn : fn.ps ≤ fn.n)
    (hb : (exs (call T k) fn.body (as ++ List.replicate (fn.n - fn.ps) .un)).wp ⟨fun _ => False, fun _ _ => False, fun d ρ => d = v ∧ outsOf as ρ = some o, fun _ => False, fun _ => False, fun _ _ => False⟩) : call T (k + 1) f as = .ok (.ow v) o :=
  eq_of_wp (call_wp hT hl hn (rs_mono hb (fun _ z => z.elim) (fun _ _ z => z.elim) (fun d ρ ⟨e1, e2⟩ => onO_of e2 ⟨by rw [e1], rfl⟩) (fun _ z => z) (fun _ z => z) fun _ _ z => z.elim))
end
end VM

set_option Elab.async false
set_option linter.all false
set_option maxRecDepth 100000
set_option maxHeartbeats 4000000
namespace VM
open PySem PySem.Spec PyProof.Rows L2 Dl
open IR (Hid Br br_mk br_t br_f OnO onO_some If if_t if_mk)
/-! ## slots -/
section
variable {ρ : Ev} {K : Ev → Prop} {i j n : Nat} {α : Type}
/-- a slot that nothing is read from -/
def jk : Option D → Sl
  | none => .un
  | some d => .v d
theorem plain_jk {o : Option D} : plainS (jk o) = true := by cases o <;> rfl
theorem plain_v {d : D} : plainS (.v d) = true := id rfl
theorem plain_un : plainS .un = true := id rfl
theorem se_eq {s : Sl} : OnO (setE ρ i s) K = K (ρ.set i s) := id rfl
theorem as_nm {d : D} : OnO (asgT (.nm i) d ρ) K = K (ρ.set i (.v d)) := id rfl
theorem as_tl {ts : List Tg} {xs : List D} : asgT (.tup ts) (.list xs) ρ = asgTs ts xs ρ := id rfl
theorem as_tt {ts : List Tg} {xs : List D} : asgT (.tup ts) (.tuple xs) ρ = asgTs ts xs ρ := id rfl
theorem as_nil : asgTs [] [] ρ = some ρ := id rfl
theorem as_cons {t : Tg} {ts : List Tg} {x : D} {xs : List D} : OnO (asgTs (t :: ts) (x :: xs) ρ) K = OnO (asgT t x ρ) fun ρ1 => OnO (asgTs ts xs ρ1) K := by
  rw [asgTs]; cases asgT t x ρ <;> rfl
theorem sa_nil : setAll [] [] ρ = some ρ := id rfl
theorem sa_cons {is : List Nat} {s : Sl} {ss : List Sl} : setAll (i :: is) (s :: ss) ρ = setAll is ss (ρ.set i s) := id rfl
def frS (s : Sl) (A : List D → Prop) (B : Prop) (_ : Hid (A, B) := ()) : Prop := match s with
  | .ow xs => A xs
  | .io _ _ => False
  | _ => B
theorem frS_ow {xs : List D} {A : List D → Prop} {B : Prop} : frS (.ow xs) A B = A xs := id rfl
theorem frS_v {d : D} {A : List D → Prop} {B : Prop} : frS (.v d) A B = B := id rfl
theorem frS_un {A : List D → Prop} {B : Prop} : frS .un A B = B := id rfl
theorem frS_jk {o : Option D} {A : List D → Prop} {B : Prop} : frS (jk o) A B = B := by cases o <;> rfl
def AtF (ρ : Ev) (i : Nat) (A : Sl → Prop) (B : Prop) (_ : Hid (A, B) := ()) : Prop := match ρ[i]? with
  | some o => A o
  | none => B
theorem atF_z {o : Sl} {A : Sl → Prop} {B : Prop} : AtF (o :: ρ) 0 A B = A o := id rfl
theorem atF_s {o : Sl} {A : Sl → Prop} {B : Prop} : AtF (o :: ρ) (i + 1) A B = AtF ρ i A B := id rfl
theorem fz_nil : frzEs [] ρ = some ρ := id rfl
theorem fz_cons {is : List Nat} : OnO (frzEs (i :: is) ρ) K = AtF ρ i (fun s => frS s (fun xs => OnO (frzEs is (ρ.set i (.v (.list xs)))) K) (OnO (frzEs is ρ) K)) (OnO (frzEs is ρ) K) := by
  rw [frzEs, frzE]
  unfold AtF
  generalize ρ[i]? = o
  rcases o with _ | s
  · rfl
  · cases s <;> rfl
/-! what a slot's list is -/
def slX (s : Sl) (A : List D → (List D → Sl) → Prop) (_ : Hid A := ()) : Prop := match s with
  | .ow xs => A xs .ow
  | .io n xs => A xs (.io n)
  | _ => False
theorem slX_ow {xs : List D} {A : List D → (List D → Sl) → Prop} : slX (.ow xs) A = A xs .ow := id rfl
theorem slX_io {xs : List D} {A : List D → (List D → Sl) → Prop} : slX (.io n xs) A = A xs (.io n) := id rfl
theorem v_d {x : D} {K : D → Prop} : OnO (val ρ (.d x)) K = K x := id rfl
theorem v_r {K : D → Prop} : OnO (val ρ (.ref i)) K = At ρ i fun s => slX s fun xs _ => K (.list xs) := by
  unfold At; rw [val]
  generalize ρ[i]? = o
  rcases o with _ | s
  · rfl
  · cases s <;> rfl
theorem vl_nil {K : List D → Prop} : OnO (vals ρ []) K = K [] := id rfl
theorem vl_d {x : D} {xs : List VV} {K : List D → Prop} : OnO (vals ρ (.d x :: xs)) K = OnO (vals ρ xs) fun ds => K (x :: ds) := by
  rw [vals]; show OnO (match some x, vals ρ xs with | some d, some ds => some (d :: ds) | _, _ => none) K = _
  cases vals ρ xs <;> rfl
theorem vl_r {xs : List VV} {K : List D → Prop} : OnO (vals ρ (.ref i :: xs)) K = OnO (val ρ (.ref i)) fun x => OnO (vals ρ xs) fun ds => K (x :: ds) := by
  rw [vals]
  cases val ρ (.ref i) with
  | none => rfl
  | some x => cases vals ρ xs <;> rfl
theorem ix_set {k : Int} {x : D} : OnO (setixE ρ (.ref i) (.int k) x) K = At ρ i fun s => slX s fun xs mk => OnO (ixN xs.length k) fun j => K (ρ.set i (mk (xs.set j x))) := by
  unfold At; rw [setixE]
  generalize ρ[i]? = o
  rcases o with _ | s
  · rfl
  · cases s with
    | ow xs => show OnO ((ixN xs.length k).map _) K = OnO (ixN xs.length k) _; cases ixN xs.length k <;> rfl
    | io m xs => show OnO ((ixN xs.length k).map _) K = OnO (ixN xs.length k) _; cases ixN xs.length k <;> rfl
    | _ => rfl
theorem ap_eq {x : D} : OnO (appE ρ i x) K = At ρ i fun s => slX s fun xs mk => If (decide (xs.length < sizeLine)) (K (ρ.set i (mk (xs ++ [x])))) := by
  unfold At; rw [appE]
  generalize ρ[i]? = o
  rcases o with _ | s
  · rfl
  · cases s with
    | ow xs => show OnO (if decide (xs.length < sizeLine) = true then _ else _) K = If (decide (xs.length < sizeLine)) _; cases decide (xs.length < sizeLine) <;> simp [If, OnO]
    | io m xs => show OnO (if decide (xs.length < sizeLine) = true then _ else _) K = If (decide (xs.length < sizeLine)) _; cases decide (xs.length < sizeLine) <;> simp [If, OnO]
    | _ => rfl
theorem ta_nil {K : List Sl → Prop} : OnO (takeA [] ρ n) K = K [] := id rfl
theorem ta_d {x : D} {vs : List VV} {K : List Sl → Prop} : OnO (takeA (.d x :: vs) ρ n) K = OnO (takeA vs ρ n) fun as => K (.v x :: as) := by
  rw [takeA]; cases takeA vs ρ n <;> rfl
theorem ta_r {vs : List VV} {K : List Sl → Prop} : OnO (takeA (.ref i :: vs) ρ n) K = At ρ i fun s => slX s fun xs _ => OnO (takeA vs (ρ.set i .un) (n + 1)) fun as => K (.io n xs :: as) := by
  unfold At; rw [takeA]
  generalize ρ[i]? = o
  rcases o with _ | s
  · rfl
  · cases s with
    | ow xs => show OnO ((takeA vs (ρ.set i .un) (n + 1)).map _) K = OnO (takeA vs (ρ.set i .un) (n + 1)) _; cases takeA vs (ρ.set i .un) (n + 1) <;> rfl
    | io m xs => show OnO ((takeA vs (ρ.set i .un) (n + 1)).map _) K = OnO (takeA vs (ρ.set i .un) (n + 1)) _; cases takeA vs (ρ.set i .un) (n + 1) <;> rfl
    | _ => rfl
theorem pu_nil : OnO (putA [] [] ρ) K = K ρ := id rfl
theorem pu_d {x : D} {vs : List VV} {o : List (List D)} : OnO (putA (.d x :: vs) o ρ) K = OnO (putA vs o ρ) K := by rw [putA]
theorem pu_r {vs : List VV} {ys : List D} {o : List (List D)} : OnO (putA (.ref i :: vs) (ys :: o) ρ) K = OnO (putA vs o (ρ.set i .un)) fun ρ2 => K (ρ2.set i (recon ρ[i]? ys)) := by
  rw [putA]; cases putA vs o (ρ.set i .un) <;> rfl
theorem rc_ow {xs ys : List D} : recon (some (.ow xs)) ys = .ow ys := id rfl
theorem rc_io {xs ys : List D} : recon (some (.io n xs)) ys = .io n ys := id rfl
theorem rt_d {x : D} : (Ret.d x).dat = x := id rfl
theorem rt_o {x : List D} : (Ret.ow x).dat = .list x := id rfl
end
/-! ## what values are -/
abbrev vI (xs : List Int) : List D := xs.map PyData.int
abbrev vL (xs : List Int) : D := .list (vI xs)
abbrev vP (d : Int) (xs : List Int) : D := .tuple [.int d, .list (vI xs)]
section
variable {i j : Int} {b c : Bool} {s t : Str} {xs ys : List D} {ns ms : List Int} {bs : List Bool}
theorem k_int : kindD (.int i) = true := id rfl
theorem is_int_int : isiD (.int i) .int = true := id rfl
theorem is_int_bool : isiD (.int i) .bool = false := id rfl
theorem is_int_str : isiD (.int i) .str = false := id rfl
theorem is_int_list : isiD (.int i) .list = false := id rfl
theorem is_int_tuple : isiD (.int i) .tuple = false := id rfl
theorem n_int : isN (.int i) = false := id rfl
theorem c_isN_int : cmpD .is (.int i) .none = some false := id rfl
theorem c_isnN_int : cmpD .isNot (.int i) .none = some true := id rfl
theorem k_bool : kindD (.bool b) = true := id rfl
theorem is_bool_int : isiD (.bool b) .int = true := id rfl
theorem is_bool_bool : isiD (.bool b) .bool = true := id rfl
theorem is_bool_str : isiD (.bool b) .str = false := id rfl
theorem is_bool_list : isiD (.bool b) .list = false := id rfl
theorem is_bool_tuple : isiD (.bool b) .tuple = false := id rfl
theorem n_bool : isN (.bool b) = false := id rfl
theorem c_isN_bool : cmpD .is (.bool b) .none = some false := id rfl
theorem c_isnN_bool : cmpD .isNot (.bool b) .none = some true := id rfl
theorem k_str : kindD (.str s) = true := id rfl
theorem is_str_int : isiD (.str s) .int = false := id rfl
theorem is_str_bool : isiD (.str s) .bool = false := id rfl
theorem is_str_str : isiD (.str s) .str = true := id rfl
theorem is_str_list : isiD (.str s) .list = false := id rfl
theorem is_str_tuple : isiD (.str s) .tuple = false := id rfl
theorem n_str : isN (.str s) = false := id rfl
theorem c_isN_str : cmpD .is (.str s) .none = some false := id rfl
theorem c_isnN_str : cmpD .isNot (.str s) .none = some true := id rfl
theorem k_none : kindD .none = true := id rfl
theorem is_none_int : isiD .none .int = false := id rfl
theorem is_none_bool : isiD .none .bool = false := id rfl
theorem is_none_str : isiD .none .str = false := id rfl
theorem is_none_list : isiD .none .list = false := id rfl
theorem is_none_tuple : isiD .none .tuple = false := id rfl
theorem n_none : isN .none = true := id rfl
theorem c_isN_none : cmpD .is .none .none = some true := id rfl
theorem c_isnN_none : cmpD .isNot .none .none = some false := id rfl
theorem k_list : kindD (.list xs) = true := id rfl
theorem is_list_int : isiD (.list xs) .int = false := id rfl
theorem is_list_bool : isiD (.list xs) .bool = false := id rfl
theorem is_list_str : isiD (.list xs) .str = false := id rfl
theorem is_list_list : isiD (.list xs) .list = true := id rfl
theorem is_list_tuple : isiD (.list xs) .tuple = false := id rfl
theorem n_list : isN (.list xs) = false := id rfl
theorem c_isN_list : cmpD .is (.list xs) .none = some false := id rfl
theorem c_isnN_list : cmpD .isNot (.list xs) .none = some true := id rfl
theorem k_tuple : kindD (.tuple xs) = true := id rfl
theorem is_tuple_int : isiD (.tuple xs) .int = false := id rfl
theorem is_tuple_bool : isiD (.tuple xs) .bool = false := id rfl
theorem is_tuple_str : isiD (.tuple xs) .str = false := id rfl
theorem is_tuple_list : isiD (.tuple xs) .list = false := id rfl
theorem is_tuple_tuple : isiD (.tuple xs) .tuple = true := id rfl
theorem n_tuple : isN (.tuple xs) = false := id rfl
theorem c_isN_tuple : cmpD .is (.tuple xs) .none = some false := id rfl
theorem c_isnN_tuple : cmpD .isNot (.tuple xs) .none = some true := id rfl
theorem tr_b : truth (.bool b) = some b := id rfl
theorem tr_n : truth .none = some false := id rfl
theorem tr_l : truth (.list xs) = some (!xs.isEmpty) := id rfl
theorem tr_t : truth (.tuple xs) = some (!xs.isEmpty) := id rfl
theorem tr_i : truth (.int i) = some (decide (i ≠ 0)) := id rfl
theorem sq_l : seqD (.list xs) = some xs := id rfl
theorem sq_t : seqD (.tuple xs) = some xs := id rfl
theorem ls_l : lstD (.list xs) = some xs := id rfl
theorem b_add : binD .add (.int i) (.int j) = some (.int (i + j)) := id rfl
theorem b_sub : binD .sub (.int i) (.int j) = some (.int (i - j)) := id rfl
theorem onO_if {α : Type} {b : Bool} {x : α} {K : α → Prop} : OnO (if b = true then some x else none) K = If b (K x) := by cases b <;> simp [OnO, If]
theorem b_mul {K : D → Prop} : OnO (binD .mul (.int i) (.int j)) K = If (IR.wid i && IR.wid j) (K (.int (i * j))) := by simp only [binD]; exact onO_if
theorem b_fdiv {K : D → Prop} : OnO (binD .fdiv (.int i) (.int j)) K = If (decide (0 < j) && IR.big j) (K (.int (i / j))) := by simp only [binD]; exact onO_if
theorem b_mod {K : D → Prop} : OnO (binD .mod (.int i) (.int j)) K = If (decide (0 < j)) (K (.int (i % j))) := by simp only [binD]; exact onO_if
theorem b_pow {K : D → Prop} : OnO (binD .pow (.int i) (.int j)) K = If (IR.big i && decide (0 ≤ j) && decide (j ≤ 1000)) (K (.int (i ^ j.toNat))) := by simp only [binD]; exact onO_if
theorem b_cat {K : D → Prop} : OnO (binD .add (.list xs) (.list ys)) K = If (decide (xs.length + ys.length ≤ sizeLine)) (K (.list (xs ++ ys))) := by simp only [binD]; exact onO_if
theorem c_lt : cmpD .lt (.int i) (.int j) = some (decide (i < j)) := id rfl
theorem c_le : cmpD .le (.int i) (.int j) = some (decide (i ≤ j)) := id rfl
theorem c_gt : cmpD .gt (.int i) (.int j) = some (decide (j < i)) := id rfl
theorem c_ge : cmpD .ge (.int i) (.int j) = some (decide (j ≤ i)) := id rfl
theorem c_eqI : cmpD .eq (.int i) (.int j) = some (i == j) := id rfl
theorem c_neI : cmpD .ne (.int i) (.int j) = some (!(i == j)) := id rfl
theorem c_eqB : cmpD .eq (.bool b) (.bool c) = some (b == c) := by cases b <;> cases c <;> rfl
theorem c_neB : cmpD .ne (.bool b) (.bool c) = some (!(b == c)) := by cases b <;> cases c <;> rfl
theorem c_eqS : cmpD .eq (.str s) (.str t) = some (decide (s = t)) := id rfl
theorem c_neS : cmpD .ne (.str s) (.str t) = some (!decide (s = t)) := id rfl
theorem eqD_mk {x y : D} (h1 : SeqAt.shaped x = true) (h2 : SeqAt.shaped y = true) (hn : ∀ s t, ¬ (x = .str s ∧ y = .str t) := by intro s t z; cases z.1 <;> cases z.2) : eqD x y = some (PyData.eqv x y) := by
  unfold eqD
  split
  · exact absurd ⟨rfl, rfl⟩ (hn _ _)
  · simp only [h1, h2, Bool.and_self, if_true]
theorem c_eqD {x y : D} (h1 : SeqAt.shaped x = true) (h2 : SeqAt.shaped y = true) (hn : ∀ s t, ¬ (x = .str s ∧ y = .str t) := by intro s t z; cases z.1 <;> cases z.2) : cmpD .eq x y = some (PyData.eqv x y) := eqD_mk h1 h2 hn
theorem c_neD {x y : D} (h1 : SeqAt.shaped x = true) (h2 : SeqAt.shaped y = true) (hn : ∀ s t, ¬ (x = .str s ∧ y = .str t) := by intro s t z; cases z.1 <;> cases z.2) : cmpD .ne x y = some (!PyData.eqv x y) := by
  show (eqD x y).map (!·) = _
  rw [eqD_mk h1 h2 hn]; rfl
theorem eqvAll_ints : ∀ (xs ys : List Int), PyData.eqvAll (xs.map PyData.int) (ys.map PyData.int) = decide (xs = ys)
  | [], [] => by simp [PyData.eqvAll]
  | [], y :: ys => by simp [PyData.eqvAll]
  | x :: xs, [] => by simp [PyData.eqvAll]
  | x :: xs, y :: ys => by
    have ih := eqvAll_ints xs ys
    rw [List.map_cons, List.map_cons, PyData.eqvAll, ih, PyData.eqv]
    by_cases e : x = y
    · subst e; simp
    · simp [e]
theorem eqv_ints (xs ys : List Int) : PyData.eqv (vL xs) (vL ys) = decide (xs = ys) := by
  rw [PyData.eqv]; exact eqvAll_ints xs ys
theorem c_eqL : cmpD .eq (.list (ns.map PyData.int)) (.list (ms.map PyData.int)) = some (decide (ns = ms)) := by
  rw [c_eqD (Lo.dI.shaped (by decide)) (Lo.dI.shaped (by decide))]
  exact congrArg some (eqv_ints ns ms)
theorem c_neL : cmpD .ne (.list (ns.map PyData.int)) (.list (ms.map PyData.int)) = some (!decide (ns = ms)) := by
  rw [c_neD (Lo.dI.shaped (by decide)) (Lo.dI.shaped (by decide))]
  exact congrArg (fun b => some (!b)) (eqv_ints ns ms)
theorem i_l : ixD (.list xs) (.int i) = atI xs i := id rfl
theorem i_t : ixD (.tuple xs) (.int i) = atI xs i := id rfl
theorem f_lenL : biD .len [.list xs] = some (.int xs.length) := id rfl
theorem f_lenT : biD .len [.tuple xs] = some (.int xs.length) := id rfl
theorem f_abs : biD .abs [.int i] = some (.int i.natAbs) := id rfl
theorem f_max : biD .max [.int i, .int j] = some (.int (max i j)) := id rfl
theorem f_min : biD .min [.int i, .int j] = some (.int (min i j)) := id rfl
theorem f_int : biD .toInt [.int i] = some (.int i) := id rfl
theorem f_intB : biD .toInt [.bool b] = some (.int (if b = true then 1 else 0)) := id rfl
theorem f_tupL : biD .tuple [.list xs] = some (.tuple xs) := id rfl
theorem f_tupT : biD .tuple [.tuple xs] = some (.tuple xs) := id rfl
theorem asInts_map (ns : List Int) : asInts (ns.map .int) = some ns := by
  induction ns with
  | nil => rfl
  | cons a t ih => simp only [List.map_cons, asInts, ih, Option.map_some]
theorem asBools_map (ns : List Bool) : asBools (ns.map .bool) = some ns := by
  induction ns with
  | nil => rfl
  | cons a t ih => simp only [List.map_cons, asBools, ih, Option.map_some]
theorem f_sum {K : D → Prop} : OnO (biD .sum [.list xs]) K = OnO (asInts xs) fun is => K (.int is.sum) := by
  show OnO ((asInts xs).map _) K = _
  cases asInts xs <;> rfl
theorem f_all {K : D → Prop} : OnO (biD .all [.list xs]) K = OnO (asBools xs) fun is => K (.bool (is.all id)) := by
  show OnO ((asBools xs).map _) K = _
  cases asBools xs <;> rfl
theorem f_any {K : D → Prop} : OnO (biD .any [.list xs]) K = OnO (asBools xs) fun is => K (.bool (is.any id)) := by
  show OnO ((asBools xs).map _) K = _
  cases asBools xs <;> rfl
theorem f_maxL {K : D → Prop} : OnO (biD .max [.list xs]) K = OnO (asInts xs) fun is => If (!is.isEmpty) (K (.int (IR.maxOf is))) := by
  show OnO ((asInts xs).bind _) K = _
  cases asInts xs with
  | none => rfl
  | some is => cases is with
    | nil => simp [OnO, If]
    | cons a t => simp [OnO, If]
theorem f_minL {K : D → Prop} : OnO (biD .min [.list xs]) K = OnO (asInts xs) fun is => If (!is.isEmpty) (K (.int (IR.minOf is))) := by
  show OnO ((asInts xs).bind _) K = _
  cases asInts xs with
  | none => rfl
  | some is => cases is with
    | nil => simp [OnO, If]
    | cons a t => simp [OnO, If]
theorem f_reprL {K : D → Prop} : OnO (biD .repr [.list xs]) K = If (IR.reprOk (.list xs)) (K (.str (PyData.list xs).shown)) := by
  show OnO (if IR.reprOk (.list xs) = true then _ else _) K = _
  exact onO_if
theorem f_reprT {K : D → Prop} : OnO (biD .repr [.tuple xs]) K = If (IR.reprOk (.tuple xs)) (K (.str (PyData.tuple xs).shown)) := by
  show OnO (if IR.reprOk (.tuple xs) = true then _ else _) K = _
  exact onO_if
theorem f_reprI {K : D → Prop} : OnO (biD .repr [.int i]) K = If (IR.big i) (K (.str (toString i))) := by
  show OnO (if IR.big i = true then _ else _) K = _
  exact onO_if
theorem decide_self {α : Type} [DecidableEq α] {a : α} : decide (a = a) = true := by simp
/-! ## walks -/
theorem zipD_map {α β : Type} (f : α → D) (g : β → D) (xs : List α) (ys : List β) : zipD (xs.map f) (ys.map g) = (xs.zip ys).map fun p => .tuple [f p.1, g p.2] := by
  unfold zipD; rw [List.zip_map, List.map_map]; rfl
theorem enumD_map {α : Type} (f : α → D) (xs : List α) : enumD (xs.map f) 0 = xs.zipIdx.map fun p => .tuple [.int (p.2 : Nat), f p.1] := by
  unfold enumD; rw [List.zipIdx_map, List.map_map]
  congr 1; funext p; simp
theorem sh_ok {w d : Nat} {x : PyData} (h : Sh w d x) (hw : w ≤ 100000) (hd : d ≤ 60) : IR.reprOk x = true := by
  unfold IR.reprOk
  rw [h.sw, h.cl, h.ls, decide_eq_true (Nat.le_trans h.dp hd), decide_eq_true (Nat.le_trans h.bk hw)]; rfl
theorem at_nat {α : Type} {xs : List α} {k : Nat} (hk : k < xs.length) : atI xs (k : Int) = some xs[k] := IR.atI_nat hk
end
theorem nc_0 : ((0 : Nat) : Int) = 0 := id rfl
theorem nc_1 : ((1 : Nat) : Int) = 1 := id rfl
theorem nc_2 : ((2 : Nat) : Int) = 2 := id rfl
theorem nc_3 : ((3 : Nat) : Int) = 3 := id rfl
theorem nc_4 : ((4 : Nat) : Int) = 4 := id rfl
theorem nc_5 : ((5 : Nat) : Int) = 5 := id rfl
theorem nc_6 : ((6 : Nat) : Int) = 6 := id rfl
theorem nc_7 : ((7 : Nat) : Int) = 7 := id rfl
theorem nc_8 : ((8 : Nat) : Int) = 8 := id rfl
/-- kept from the walk -/
structure Hd (p : Prop) : Prop where
  h : p
end VM

set_option maxRecDepth 100000
namespace VM
open PySem
def v_is_integer : Fn := ⟨1, 1, [.ret (.and (.isi (.loc 0) (.int)) (.not (.isi (.loc 0) (.bool))))]⟩
def v_is_at_least : Fn := ⟨2, 2, [.ret (.and (.call "is_integer" [.loc 0]) (.cmp (.ge) (.loc 0) (.loc 1)))]⟩
def v_is_turn : Fn := ⟨1, 1, [.ret (.and (.call "is_integer" [.loc 0]) (.cmp (.ne) (.loc 0) (.int 0)))]⟩
def v_is_pair : Fn := ⟨1, 1, [.ret (.and (.isi (.loc 0) (.tuple)) (.cmp (.eq) (.bi (.len) [.loc 0]) (.int 2)))]⟩
def v_are_plays : Fn := ⟨2, 1, [.ife (.or (.not (.tru (.isi (.loc 0) (.list)))) (.not (.tru (.chain (.le) (.le) (.int 1) (.bi (.len) [.loc 0]) (.int 8))))) [.ret (.bl false)] [], .ret (.bi (.all) [.fr (.lc (.nm 1) (.over (.loc 0)) [] (.call "is_at_least" [.loc 1, .int 0]) [1])])]⟩
def v_are_places : Fn := ⟨6, 3, [.ife (.or (.not (.tru (.isi (.loc 2) (.list)))) (.tru (.cmp (.ne) (.bi (.len) [.loc 2]) (.bi (.len) [.loc 0])))) [.ret (.bl false)] [], .set 3 (.loc 1), .forS (.tup [.nm 4, .nm 5]) (.zip (.loc 0) (.loc 2)) [.ife (.or (.not (.tru (.call "is_integer" [.loc 5]))) (.not (.tru (.chain (.le) (.le) (.int 0) (.bin (.sub) (.loc 3) (.loc 5)) (.loc 4))))) [.ret (.bl false)] [], .set 3 (.loc 5)], .ret (.bl true)]⟩
def v_check_lock : Fn := ⟨3, 1, [.ife (.not (.tru (.call "is_pair" [.loc 0]))) [.stop] [], .tset (.tup [.nm 1, .nm 2]) (.loc 0), .ife (.not (.tru (.call "is_at_least" [.loc 1, .int 2]))) [.stop] [], .ife (.not (.tru (.call "are_plays" [.loc 2]))) [.stop] []]⟩
def v_check_state : Fn := ⟨4, 2, [.ife (.not (.tru (.call "is_pair" [.loc 1]))) [.stop] [], .tset (.tup [.nm 2, .nm 3]) (.loc 1), .ife (.not (.tru (.call "is_integer" [.loc 2]))) [.stop] [], .ife (.not (.tru (.call "are_places" [.ix (.loc 0) (.int 1), .loc 2, .loc 3]))) [.stop] []]⟩
def v_check_dial : Fn := ⟨1, 1, [.ife (.not (.tru (.call "is_integer" [.loc 0]))) [.stop] []]⟩
def v_check_turns : Fn := ⟨3, 1, [.ife (.or (.not (.tru (.isi (.loc 0) (.list)))) (.tru (.cmp (.gt) (.bi (.len) [.loc 0]) (.int 60)))) [.stop] [], .forS (.tup [.nm 1, .nm 2]) (.enum (.loc 0) none) [.ife (.not (.tru (.call "is_turn" [.loc 2]))) [.stop] []]]⟩
def v_pushed_up : Fn := ⟨5, 2, [.expr (.call "check_lock" [.loc 0]), .expr (.call "check_dial" [.loc 1]), .seto 2 (.lst []), .set 3 (.loc 1), .forS (.nm 4) (.over (.ix (.loc 0) (.int 1))) [.set 3 (.bin (.sub) (.loc 3) (.loc 4)), .expr (.app (.loc 2) (.loc 3))], .frz [2], .ret (.tup [.loc 1, .loc 2])]⟩
def v_pushed_back : Fn := ⟨2, 2, [.expr (.call "check_lock" [.loc 0]), .expr (.call "check_dial" [.loc 1]), .ret (.tup [.loc 1, .fr (.rep [.loc 1] (.bi (.len) [.ix (.loc 0) (.int 1)]))])]⟩
def v_turned_once : Fn := ⟨10, 3, [.tset (.tup [.nm 3, .nm 4]) (.loc 1), .set 5 (.bin (.add) (.loc 3) (.loc 2)), .seto 6 (.lst []), .set 7 (.loc 5), .forS (.tup [.nm 8, .nm 9]) (.zip (.ix (.loc 0) (.int 1)) (.loc 4)) [.set 7 (.ite (.tru (.cmp (.gt) (.loc 2) (.int 0))) (.bi (.max) [.loc 9, .bin (.sub) (.loc 7) (.loc 8)]) (.bi (.min) [.loc 9, .loc 7])), .expr (.app (.loc 6) (.loc 7))], .frz [6], .ret (.tup [.loc 5, .loc 6])]⟩
def v_turned_state : Fn := ⟨6, 3, [.set 3 (.call "state_trail" [.loc 0, .loc 1, .loc 2]), .ife (.tru (.loc 3)) [.ret (.ix (.loc 3) (.neg (.int 1)))] [], .tset (.tup [.nm 4, .nm 5]) (.loc 1), .ret (.tup [.loc 4, .fr (.lof (.loc 5))])]⟩
def v_state_trail : Fn := ⟨6, 3, [.expr (.call "check_lock" [.loc 0]), .expr (.call "check_state" [.loc 0, .loc 1]), .expr (.call "check_turns" [.loc 2]), .seto 3 (.lst []), .set 4 (.loc 1), .forS (.nm 5) (.over (.loc 2)) [.set 4 (.call "_turned_once" [.loc 0, .loc 4, .loc 5]), .expr (.app (.loc 3) (.loc 4))], .frz [3], .ret (.loc 3)]⟩
def v_effect_of : Fn := ⟨6, 2, [.expr (.call "check_lock" [.loc 0]), .expr (.call "check_turns" [.loc 1]), .tset (.tup [.nm 2, .nm 3]) (.call "turned_state" [.loc 0, .call "pushed_up" [.loc 0, .int 0], .loc 1]), .tset (.tup [.nm 4, .nm 5]) (.call "turned_state" [.loc 0, .call "pushed_back" [.loc 0, .int 0], .loc 1]), .ret (.tup [.loc 2, .fr (.lzip (.loc 3) (.loc 5))])]⟩
def v_law_pool : Fn := ⟨3, 2, [.set 2 (.ite (.tru (.cmp (.lt) (.loc 1) (.bi (.len) [.loc 0]))) (.ix (.loc 0) (.loc 1)) (.int 0)), .reto (.lst [.bi (.max) [.int 0, .bin (.sub) (.bi (.abs) [.loc 2]) (.bin (.pow) (.int 10) (.int 18))], .bin (.add) (.bin (.mod) (.bi (.toInt) [.loc 2]) (.bin (.add) (.bin (.pow) (.int 10) (.int 21)) (.int 117))) (.bin (.mul) (.int 8191) (.bin (.add) (.loc 1) (.int 1))), .int 0])]⟩
def v_law_draw : Fn := ⟨4, 2, [.ife (.tru (.cmp (.gt) (.ix (.loc 0) (.int 0)) (.int 0))) [.set 2 (.bin (.mod) (.bi (.toInt) [.ix (.loc 0) (.int 0)]) (.loc 1)), .setix (.loc 0) (.int 0) (.bin (.fdiv) (.ix (.loc 0) (.int 0)) (.loc 1)), .ret (.loc 2)] [], .setix (.loc 0) (.int 2) (.bin (.add) (.ix (.loc 0) (.int 2)) (.int 1)), .set 3 (.bin (.mod) (.bi (.toInt) [.bin (.pow) (.bin (.add) (.ix (.loc 0) (.int 1)) (.bin (.mul) (.int 524287) (.ix (.loc 0) (.int 2)))) (.int 3)]) (.bin (.add) (.bin (.pow) (.int 10) (.int 44)) (.int 31))), .set 3 (.bin (.mod) (.bi (.toInt) [.bin (.pow) (.bin (.add) (.loc 3) (.bin (.mul) (.int 6700417) (.ix (.loc 0) (.int 2)))) (.int 3)]) (.bin (.add) (.bin (.pow) (.int 10) (.int 50)) (.int 151))), .ret (.bin (.mod) (.bi (.toInt) [.bin (.fdiv) (.loc 3) (.int 131071)]) (.loc 1))]⟩
def v_law_draw_1 : Fn := ⟨4, 2, [.ife (.tru (.cmp (.gt) (.ix (.loc 0) (.int 0)) (.int 0))) [.set 2 (.bin (.mod) (.bi (.toInt) [.ix (.loc 0) (.int 0)]) (.loc 1)), .setix (.loc 0) (.int 0) (.bin (.fdiv) (.ix (.loc 0) (.int 0)) (.loc 1)), .ret (.loc 2)] [], .setix (.loc 0) (.int 2) (.bin (.add) (.ix (.loc 0) (.int 2)) (.int 1)), .set 3 (.bin (.add) (.ix (.loc 0) (.int 1)) (.bin (.mul) (.int 1000000000000000003) (.ix (.loc 0) (.int 2)))), .set 3 (.bin (.add) (.bin (.mod) (.bi (.toInt) [.bin (.pow) (.loc 3) (.int 2)]) (.int 170141183460469231731687303715884105727)) (.bin (.mul) (.int 999999000001) (.ix (.loc 0) (.int 2)))), .set 3 (.bin (.mod) (.bi (.toInt) [.bin (.pow) (.loc 3) (.int 3)]) (.int 170141183460469231731687303715884105727)), .ret (.bin (.mod) (.bi (.toInt) [.bin (.fdiv) (.loc 3) (.int 1048576)]) (.loc 1))]⟩
def v_law_box : Fn := ⟨8, 4, [.par [4, 5] [(false, .bin (.add) (.int 2) (.call "_law_draw" [.loc 0, .ix (.fr (.lst [.int 3, .loc 3, .loc 3])) (.call "_law_draw" [.loc 0, .int 3])])), (true, .lst [])], .forS (.nm 6) (.rng1 (.bin (.add) (.int 1) (.call "_law_draw" [.loc 0, .loc 1]))) [.set 7 (.fr (.lst [.int 0, .bin (.sub) (.loc 4) (.int 1), .loc 4, .call "_law_draw" [.loc 0, .bin (.add) (.loc 2) (.int 1)], .call "_law_draw" [.loc 0, .bin (.add) (.loc 2) (.int 1)]])), .expr (.app (.loc 5) (.bi (.min) [.ix (.loc 7) (.call "_law_draw" [.loc 0, .int 5]), .loc 2]))], .frz [5], .ret (.tup [.loc 4, .loc 5])]⟩
def v_law_row : Fn := ⟨6, 3, [.seto 3 (.lst []), .forS (.nm 4) (.rng1 (.loc 1)) [.set 5 (.bin (.add) (.int 1) (.call "_law_draw" [.loc 0, .ix (.fr (.lst [.loc 2, .int 3, .loc 2])) (.call "_law_draw" [.loc 0, .int 3])])), .expr (.app (.loc 3) (.ix (.fr (.lst [.loc 5, .neg (.loc 5)])) (.call "_law_draw" [.loc 0, .int 2])))], .frz [3], .ret (.loc 3)]⟩
def v_law_past : Fn := ⟨6, 3, [.par [3, 4] [(true, .lst []), (false, .loc 2)], .forS (.nm 5) (.over (.ix (.loc 1) (.int 1))) [.set 4 (.bin (.sub) (.loc 4) (.ix (.fr (.lst [.int 0, .loc 5, .call "_law_draw" [.loc 0, .bin (.add) (.loc 5) (.int 1)], .call "_law_draw" [.loc 0, .bin (.add) (.loc 5) (.int 1)]])) (.call "_law_draw" [.loc 0, .int 4]))), .expr (.app (.loc 3) (.loc 4))], .frz [3], .ret (.tup [.loc 2, .loc 3])]⟩
def v_law_behind : Fn := ⟨10, 3, [.par [3, 4] [(false, .ix (.loc 1) (.int 0)), (false, .fr (.lof (.ix (.loc 1) (.int 1))))], .forS (.nm 5) (.over (.loc 2)) [.set 3 (.bin (.add) (.loc 3) (.loc 5)), .par [6, 7] [(false, .loc 3), (true, .lst [])], .forS (.tup [.nm 8, .nm 9]) (.zip (.ix (.loc 0) (.int 1)) (.loc 4)) [.ife (.tru (.cmp (.gt) (.loc 5) (.int 0))) [.set 6 (.bi (.max) [.loc 9, .bin (.sub) (.loc 6) (.loc 8)])] [.set 6 (.bi (.min) [.loc 9, .loc 6])], .expr (.app (.loc 7) (.loc 6))], .frz [7], .set 4 (.loc 7)], .ret (.tup [.loc 3, .loc 4])]⟩
def v_law_ends : Fn := ⟨4, 1, [.par [1, 2] [(true, .lst []), (false, .int 0)], .forS (.nm 3) (.over (.ix (.loc 0) (.int 1))) [.set 2 (.bin (.sub) (.loc 2) (.loc 3)), .expr (.app (.loc 1) (.loc 2))], .frz [1], .ret (.fr (.lst [.tup [.int 0, .loc 1], .tup [.int 0, .fr (.rep [.int 0] (.bi (.len) [.ix (.loc 0) (.int 1)]))]]))]⟩
def v_law_right : Fn := ⟨15, 2, [.set 2 (.ix (.fr (.lst [.int 9, .int 1000, .bin (.pow) (.int 10) (.int 12), .bin (.pow) (.int 10) (.int 27)])) (.call "_law_draw" [.loc 0, .int 4])), .set 3 (.call "_law_box" [.loc 0, .int 8, .loc 2, .loc 2]), .set 4 (.call "_law_row" [.loc 0, .loc 1, .ix (.fr (.lst [.loc 2, .bin (.mul) (.int 2) (.loc 2), .bin (.mul) (.int 5) (.loc 2)])) (.call "_law_draw" [.loc 0, .int 3])]), .tset (.tup [.nm 6, .nm 7]) (.fr (.lc (.nm 5) (.over (.call "_law_ends" [.loc 3])) [] (.ix (.call "_law_behind" [.loc 3, .loc 5, .loc 4]) (.int 1)) [5])), .set 8 (.fr (.lzip (.loc 6) (.loc 7))), .ife (.tru (.cmp (.ne) (.bi (.repr) [.callk "effect_of" [.loc 4, .loc 3] [1, 0]]) (.bi (.repr) [.tup [.bi (.sum) [.loc 4], .loc 8]]))) [.ret (.bl false)] [], .forS (.nm 9) (.rng1 (.int 3)) [.set 10 (.bin (.sub) (.call "_law_draw" [.loc 0, .bin (.pow) (.int 10) (.int 28)]) (.call "_law_draw" [.loc 0, .bin (.pow) (.int 10) (.int 28)])), .set 5 (.call "_law_past" [.loc 0, .loc 3, .loc 10]), .set 11 (.fr (.lc (.tup [.nm 12, .tup [.nm 13, .nm 14]]) (.zip (.ix (.loc 5) (.int 1)) (.loc 8)) [] (.bin (.add) (.loc 10) (.bi (.min) [.bi (.max) [.bin (.sub) (.loc 12) (.loc 10), .loc 13], .loc 14])) [12, 13, 14])), .ife (.tru (.cmp (.ne) (.call "_law_behind" [.loc 3, .loc 5, .loc 4]) (.tup [.bin (.add) (.loc 10) (.bi (.sum) [.loc 4]), .loc 11]))) [.ret (.bl false)] []], .ret (.bl true)]⟩
def v_law_right_1 : Fn := ⟨4, 3, [.set 3 (.fr (.lof (.loc 0))), .ret (.and (.cmp (.eq) (.bi (.repr) [.callk "place_behind" [.loc 3, .loc 1] [1, 0]]) (.bi (.repr) [.loc 2])) (.cmp (.eq) (.loc 3) (.loc 0)))]⟩
def v_law : Fn := ⟨4, 1, [.forS (.nm 1) (.rng1 (.bi (.max) [.int 1, .bi (.min) [.int 3, .bi (.len) [.loc 0]]])) [.seto 2 (.call "_law_pool" [.loc 0, .loc 1]), .forS (.nm 3) (.rng1 (.int 5)) [.ife (.not (.tru (.call "_law_right" [.loc 2, .call "_law_draw" [.loc 2, .int 13]]))) [.ret (.bl false)] []], .ife (.and (.tru (.cmp (.eq) (.loc 1) (.int 0))) (.not (.tru (.call "_law_right" [.loc 2, .int 60])))) [.ret (.bl false)] []], .ret (.bl true)]⟩
def v_law_1 : Fn := ⟨6, 1, [.seto 1 (.call "_law_stock" [.loc 0]), .forS (.nm 2) (.rng1 (.int 6)) [.set 3 (.call "_law_turns" [.loc 1, .call "_law_draw" [.loc 1, .int 12], .int 40]), .forS (.nm 4) (.over (.call "_law_reaches" [.loc 1, .loc 3])) [.ife (.not (.tru (.call "_law_right" [.loc 3, .loc 4, .call "_law_by_units" [.loc 4, .loc 3]]))) [.ret (.bl false)] []], .set 3 (.call "_law_turns" [.loc 1, .ix (.fr (.lst [.int 60, .call "_law_draw" [.loc 1, .int 61]])) (.call "_law_draw" [.loc 1, .int 2]), .ix (.fr (.lst [.bin (.pow) (.int 10) (.int 28), .int 500])) (.call "_law_draw" [.loc 1, .int 2])]), .forS (.nm 4) (.over (.call "_law_reaches" [.loc 1, .loc 3])) [.ife (.not (.tru (.call "_law_right" [.loc 3, .loc 4, .call "_law_place" [.loc 4, .loc 3]]))) [.ret (.bl false)] []]], .set 5 (.fr (.lc (.nm 4) (.over (.tup [.int 0, .int 90, .int 100, .int 150, .bin (.pow) (.int 10) (.int 29)])) [] (.call "place_behind" [.loc 4, .fr (.lst [.int 300, .neg (.int 100)])]) [4])), .ret (.and (.cmp (.eq) (.bi (.repr) [.loc 5]) (.bi (.repr) [.fr (.lst [.int 200, .int 200, .int 200, .int 150, .int 0])])) (.cmp (.eq) (.call "place_behind" [.int 7, .fr (.lst [])]) (.int 0)))]⟩
def v_check_at_least : Fn := ⟨2, 2, [.ife (.not (.tru (.call "is_at_least" [.loc 0, .loc 1]))) [.stop] []]⟩
def v_stops_of : Fn := ⟨5, 2, [.seto 2 (.lst []), .set 3 (.loc 0), .forS (.nm 4) (.over (.loc 1)) [.set 3 (.bin (.add) (.loc 3) (.loc 4)), .expr (.app (.loc 2) (.loc 3))], .frz [2], .ret (.loc 2)]⟩
def v_place_at : Fn := ⟨4, 3, [.forS (.nm 3) (.over (.loc 2)) [.set 0 (.bi (.min) [.bi (.max) [.loc 0, .bin (.sub) (.loc 3) (.loc 1)], .loc 3])], .ret (.loc 0)]⟩
def v_place_behind : Fn := ⟨2, 2, [.expr (.call "check_at_least" [.loc 0, .int 0]), .expr (.call "check_turns" [.loc 1]), .ret (.call "place_at" [.int 0, .loc 0, .call "stops_of" [.int 0, .loc 1]])]⟩
def v_law_stock : Fn := ⟨5, 1, [.par [1, 2] [(false, .int 0), (false, .int 27644437)], .forS (.nm 3) (.over (.fr (.slice (.loc 0) none (some (.int 63))))) [.ife (.tru (.cmp (.ge) (.bi (.abs) [.loc 3]) (.bin (.pow) (.int 10) (.int 18)))) [.set 1 (.bin (.add) (.bin (.mul) (.loc 1) (.bin (.pow) (.int 10) (.int 60))) (.bin (.mod) (.bi (.toInt) [.bi (.abs) [.loc 3]]) (.bin (.pow) (.int 10) (.int 60))))] [], .set 4 (.bin (.add) (.bin (.add) (.bin (.mul) (.loc 2) (.int 48271)) (.bin (.mod) (.bi (.toInt) [.loc 3]) (.int 2305843009213693951))) (.int 101)), .set 2 (.bin (.mod) (.bi (.toInt) [.loc 4]) (.int 170141183460469231731687303715884105727))], .reto (.lst [.loc 1, .loc 2, .int 0])]⟩
def v_law_turns : Fn := ⟨6, 3, [.seto 3 (.lst []), .forS (.nm 4) (.rng1 (.loc 1)) [.set 5 (.ix (.fr (.lst [.int 1, .bin (.add) (.int 1) (.call "_law_draw" [.loc 0, .int 9]), .bin (.add) (.int 1) (.call "_law_draw" [.loc 0, .loc 2]), .bin (.add) (.int 1) (.call "_law_draw" [.loc 0, .loc 2])])) (.call "_law_draw" [.loc 0, .int 4])), .expr (.app (.loc 3) (.bin (.mul) (.loc 5) (.ix (.fr (.lst [.int 1, .neg (.int 1)])) (.call "_law_draw" [.loc 0, .int 2]))))], .frz [3], .ret (.loc 3)]⟩
def v_law_held : Fn := ⟨3, 3, [.ret (.bi (.max) [.bi (.min) [.loc 0, .loc 1], .bin (.sub) (.loc 1) (.loc 2)])]⟩
def v_law_place : Fn := ⟨5, 2, [.par [2, 3] [(false, .int 0), (false, .int 0)], .forS (.nm 4) (.over (.loc 1)) [.set 3 (.bin (.add) (.loc 3) (.loc 4)), .set 2 (.call "_law_held" [.loc 2, .loc 3, .loc 0])], .ret (.loc 2)]⟩
def v_law_by_units : Fn := ⟨6, 2, [.par [2, 3] [(false, .int 0), (false, .int 0)], .forS (.nm 4) (.over (.loc 1)) [.forS (.nm 5) (.rng1 (.bi (.abs) [.loc 4])) [.set 3 (.bin (.add) (.loc 3) (.ite (.tru (.cmp (.gt) (.loc 4) (.int 0))) (.int 1) (.neg (.int 1)))), .ife (.tru (.cmp (.gt) (.loc 2) (.loc 3))) [.set 2 (.loc 3)] [], .ife (.tru (.cmp (.lt) (.loc 2) (.bin (.sub) (.loc 3) (.loc 0)))) [.set 2 (.bin (.sub) (.loc 3) (.loc 0))] []]], .ret (.loc 2)]⟩
def v_law_reaches : Fn := ⟨6, 2, [.par [2, 3] [(true, .lst [.int 0]), (false, .int 0)], .forS (.nm 4) (.over (.loc 1)) [.set 3 (.bin (.add) (.loc 3) (.loc 4)), .expr (.app (.loc 2) (.loc 3))], .set 5 (.bi (.abs) [.bin (.sub) (.ix (.loc 2) (.call "_law_draw" [.loc 0, .bi (.len) [.loc 2]])) (.ix (.loc 2) (.call "_law_draw" [.loc 0, .bi (.len) [.loc 2]]))]), .ret (.fr (.lst [.int 0, .int 1, .loc 5, .bin (.add) (.loc 5) (.int 1), .bi (.max) [.int 0, .bin (.sub) (.loc 5) (.int 1)], .call "_law_draw" [.loc 0, .int 50], .call "_law_draw" [.loc 0, .bin (.pow) (.int 10) (.int 29)], .bin (.pow) (.int 10) (.int 29)]))]⟩
end VM

set_option Elab.async false
set_option linter.all false
set_option maxRecDepth 100000
set_option maxHeartbeats 4000000
set_option exponentiation.threshold 5000
namespace VM
open PySem PySem.Spec PyProof.Rows L2 Dl
open IR (Hid Br br_mk br_t br_f OnO onO_some If if_t if_mk)
local macro_rules | `(tactic| walk_at "run") => `(tactic| simp (disch := omega) only [↓s_nil, ↓s_tnx, ↓s_trt, ↓s_tro, ↓s_tbk, ↓s_tct, ↓s_txx, ↓s_cons, ↓s_frz, ↓s_set, ↓s_seto, ↓s_par, ↓s_tset, ↓s_setix, ↓s_ife, ↓s_for, ↓s_ret, ↓s_rets, ↓s_reto, ↓s_retN, ↓s_expr, ↓s_pass, ↓s_brk, ↓s_cont, ↓w_int, ↓w_bl, ↓w_non, ↓w_str, ↓w_loc, ↓w_bin, ↓w_cmp, ↓w_chain, ↓w_and, ↓w_or, ↓w_not, ↓w_neg, ↓w_ite, ↓w_tup, ↓w_fr, ↓w_callV, ↓w_call, ↓w_callk, ↓w_ix, ↓w_bi, ↓w_isi, ↓w_app, ↓o_lst, ↓o_rep, ↓o_slice, ↓o_lof, ↓o_lzip, ↓o_lc, ↓o_call, ↓o_callk, ↓vs_nil, ↓vs_cons, ↓ds_nil, ↓ds_cons, ↓ep_none, ↓ep_some, ↓sl_nil, ↓sl_t, ↓sl_f, ↓t_and, ↓t_or, ↓t_not, ↓t_tru, ↓tl_nil, ↓tl_one, ↓i_over, ↓i_rng1, ↓i_rng2, ↓i_rng3, ↓i_zip, ↓i_enum, ↓wp_ok, ↓wp_dR, ↓w_d1, ↓wp_bind, ↓wp_next, ↓wp_ret, ↓wp_reto, ↓wp_brk, ↓wp_cont, ↓wpc_ok, ↓wpc_err, ↓onD_d, ↓onI_int, ↓onB_bl, ↓onR_ref, ↓onW_ow, ↓at_z, ↓at_s, ↓slV_v, ↓slV_ow, ↓slV_io, ↓slO_ow, ↓br_t, ↓br_f, ↓if_t, ↓onO_some, ↓plain_jk, ↓plain_v, ↓plain_un, ↓se_eq, ↓as_nm, ↓as_tl, ↓as_tt, ↓as_nil, ↓as_cons, ↓sa_nil, ↓sa_cons, ↓frS_ow, ↓frS_v, ↓frS_un, ↓frS_jk, ↓atF_z, ↓atF_s, ↓fz_nil, ↓fz_cons, ↓slX_ow, ↓slX_io, ↓v_d, ↓v_r, ↓vl_nil, ↓vl_d, ↓vl_r, ↓ix_set, ↓ap_eq, ↓ta_nil, ↓ta_d, ↓ta_r, ↓pu_nil, ↓pu_d, ↓pu_r, ↓rc_ow, ↓rc_io, ↓rt_d, ↓rt_o, ↓tr_b, ↓tr_n, ↓tr_l, ↓tr_t, ↓tr_i, ↓sq_l, ↓sq_t, ↓ls_l, ↓b_add, ↓b_sub, ↓b_mul, ↓b_fdiv, ↓b_mod, ↓b_pow, ↓b_cat, ↓c_lt, ↓c_le, ↓c_gt, ↓c_ge, ↓c_eqI, ↓c_neI, ↓c_eqB, ↓c_neB, ↓c_eqS, ↓c_neS, ↓c_eqL, ↓c_neL, ↓i_l, ↓i_t, ↓f_lenL, ↓f_lenT, ↓f_abs, ↓f_max, ↓f_min, ↓f_int, ↓f_intB, ↓f_tupL, ↓f_tupT, ↓f_sum, ↓f_all, ↓f_any, ↓f_maxL, ↓f_minL, ↓f_reprL, ↓f_reprT, ↓f_reprI, ↓asInts_map, ↓asBools_map, ↓decide_self, ↓IR.atI_0, ↓IR.atI_1, ↓IR.atI_2, ↓IR.atI_3, ↓IR.atI_end, ↓IR.ixN_0, ↓IR.ixN_1, ↓IR.ixN_2, ↓k_int, ↓n_int, ↓c_isN_int, ↓c_isnN_int, ↓is_int_int, ↓is_int_bool, ↓is_int_str, ↓is_int_list, ↓is_int_tuple, ↓k_bool, ↓n_bool, ↓c_isN_bool, ↓c_isnN_bool, ↓is_bool_int, ↓is_bool_bool, ↓is_bool_str, ↓is_bool_list, ↓is_bool_tuple, ↓k_str, ↓n_str, ↓c_isN_str, ↓c_isnN_str, ↓is_str_int, ↓is_str_bool, ↓is_str_str, ↓is_str_list, ↓is_str_tuple, ↓k_none, ↓n_none, ↓c_isN_none, ↓c_isnN_none, ↓is_none_int, ↓is_none_bool, ↓is_none_str, ↓is_none_list, ↓is_none_tuple, ↓k_list, ↓n_list, ↓c_isN_list, ↓c_isnN_list, ↓is_list_int, ↓is_list_bool, ↓is_list_str, ↓is_list_list, ↓is_list_tuple, ↓k_tuple, ↓n_tuple, ↓c_isN_tuple, ↓c_isnN_tuple, ↓is_tuple_int, ↓is_tuple_bool, ↓is_tuple_str, ↓is_tuple_list, ↓is_tuple_tuple, List.set_cons_zero, List.set_cons_succ, List.map_cons, List.map_nil, List.cons_append, List.nil_append, List.append_nil, List.replicate_succ, List.replicate_zero, List.length_cons, List.length_nil, List.getElem?_cons_zero, List.getElem?_cons_succ, List.getD_cons_zero, List.getD_cons_succ, List.all_cons, List.all_nil, Nat.reduceAdd, Nat.reduceSub, Nat.reduceLeDiff, List.isEmpty_nil, List.isEmpty_cons, Int.reduceToNat, Int.reducePow, Int.reduceAdd, Int.reduceSub, Int.reduceMul, Int.reduceNeg, Int.reduceLT, Int.reduceLE, Bool.true_and, Bool.and_true, Bool.false_and, Bool.and_false, Bool.not_true, Bool.not_false, Bool.true_or, Bool.or_true, Bool.false_or, Bool.or_false, Bool.and_self, decide_true, decide_false, wipeE, restE, exists_eq_left', exists_eq_left, Option.some.injEq, Option.getD_some, nc_0, nc_1, nc_2, nc_3, nc_4, nc_5, nc_6, nc_7, nc_8, Int.natCast_one, Int.natCast_zero, beq_self_eq_true, Int.reduceBEq, Int.reduceBNe, *])
local macro_rules | `(tactic| walk_at "line") => `(tactic| (first | (with_reducible apply decide_eq_true; exact Nat.le_trans (by first | (simp only [List.length_cons, List.length_nil, List.length_append, List.length_map, List.length_range, List.length_zip]; omega) | omega) (by decide : 100000 ≤ sizeLine)) | (with_reducible apply decide_eq_true; exact Nat.lt_of_le_of_lt (by first | (simp only [List.length_cons, List.length_nil, List.length_append, List.length_map, List.length_range, List.length_zip]; omega) | omega) (by decide : 100000 < sizeLine)) | (with_reducible exact IR.line_le (by omega)) | (with_reducible exact IR.line_lt (by omega))))
local macro_rules | `(tactic| walk_at "num") => `(tactic| (first | (simp only [IR.big, IR.wid, IR.small, Bool.and_eq_true, decide_eq_true_eq]; omega) | (simp only [IR.big, IR.wid, IR.small, Bool.and_eq_true, decide_eq_true_eq]; refine ⟨?_, ?_⟩ <;> omega)))
local macro_rules | `(tactic| walk_at "go") => `(tactic| first | walk_at "run" | ((with_reducible refine if_mk ?gu ?_); (case gu => first | walk_at "num" | walk_at "line")))
local macro_rules | `(tactic| walk_at "goc") => `(tactic| first | walk_at "run" | ((with_reducible apply dr_v); (case hT => assumption); (case hc => assumption); (case hm => omega); (case hm2 => omega); (case hk => omega); intro r cs e1 e2 hc) | ((with_reducible refine if_mk ?gu ?_); (case gu => first | walk_at "num" | walk_at "line")))
section
variable {T : Str → Option Fn} {k : Nat}
/-! ## checks -/
theorem v_isI {i : Int} (hT : T "is_integer" = some v_is_integer) : call T (k + 1) "is_integer" [.v (.int i)] = .ok (.d (.bool true)) [] := call_mk hT rfl (by decide) (by
  simp only [v_is_integer]
  walk_at "run"
  exact ⟨trivial, rfl⟩)
theorem v_isAL {i m : Int} (hI : T "is_integer" = some v_is_integer) (hT : T "is_at_least" = some v_is_at_least) : call T (k + 2) "is_at_least" [.v (.int i), .v (.int m)] = .ok (.d (.bool (decide (m ≤ i)))) [] := call_mk hT rfl (by decide) (by
  have k1 := v_isI (k := k) (i := i) hI
  simp only [v_is_at_least]
  walk_at "run"
  exact ⟨trivial, rfl⟩)
theorem v_isT {i : Int} (hI : T "is_integer" = some v_is_integer) (hT : T "is_turn" = some v_is_turn) : call T (k + 2) "is_turn" [.v (.int i)] = .ok (.d (.bool (!(i == 0)))) [] := call_mk hT rfl (by decide) (by
  have k1 := v_isI (k := k) (i := i) hI
  simp only [v_is_turn]
  walk_at "run"
  exact ⟨trivial, rfl⟩)
theorem v_isP {a b : D} (hT : T "is_pair" = some v_is_pair) : call T (k + 1) "is_pair" [.v (.tuple [a, b])] = .ok (.d (.bool true)) [] := call_mk hT rfl (by decide) (by
  simp only [v_is_pair]
  walk_at "run"
  exact ⟨trivial, rfl⟩)
structure Plays (ps : List Int) : Prop where
  pos : 1 ≤ ps.length
  most : ps.length ≤ 8
  nn : ∀ p ∈ ps, 0 ≤ p
theorem v_arePlays {ps : List Int} (hI : T "is_integer" = some v_is_integer) (hA : T "is_at_least" = some v_is_at_least) (hT : T "are_plays" = some v_are_plays) (h : Plays ps) : call T (k + 3) "are_plays" [.v (vL ps)] = .ok (.d (.bool true)) [] := call_mk hT rfl (by decide) (by
  have k1 := fun p => v_isAL (k := k) (i := p) (m := 0) hI hA
  have h1 : (1 : Int) ≤ ((vI ps).length : Nat) := by have := h.pos; rw [List.length_map]; omega
  have h2 : (((vI ps).length : Nat) : Int) ≤ 8 := by have := h.most; rw [List.length_map]; omega
  have d1 := decide_eq_true h1
  have d2 := decide_eq_true h2
  simp only [v_are_plays]
  walk_at "run"
  refine lc_map PyData.int (fun _ => true) (fun p => .bool (decide (0 ≤ p))) (by have := h.most; omega) (fun p hp => ⟨_, rfl, rfl, ?_⟩) ?_
  · walk_at "run"
    exact ⟨trivial, trivial, fun _ => ⟨trivial, trivial⟩⟩
  · have e : (ps.filter fun _ => true).map (fun p => PyData.bool (decide (0 ≤ p))) = (ps.map fun p => decide (0 ≤ p)).map .bool := by
      rw [List.filter_eq_self.mpr fun _ _ => rfl, List.map_map]; rfl
    have e2 : (ps.map fun p => decide (0 ≤ p)).all id = true := by
      rw [List.all_map, List.all_eq_true]; intro p hp; simpa using h.nn p hp
    rw [e]
    walk_at "run"
    exact ⟨trivial, rfl⟩)
theorem v_checkLock {r : Int} {ps : List Int} (hI : T "is_integer" = some v_is_integer) (hA : T "is_at_least" = some v_is_at_least) (hP : T "is_pair" = some v_is_pair) (hS : T "are_plays" = some v_are_plays) (hT : T "check_lock" = some v_check_lock) (hr : 2 ≤ r) (h : Plays ps) : call T (k + 4) "check_lock" [.v (vP r ps)] = .ok (.d .none) [] := call_mk hT rfl (by decide) (by
  have k1 := v_isP (k := k + 2) (a := .int r) (b := vL ps) hP
  have k2 := v_isAL (k := k + 1) (i := r) (m := 2) hI hA
  have k3 := v_arePlays (k := k) hI hA hS h
  rw [decide_eq_true hr] at k2
  simp only [v_check_lock]
  walk_at "run"
  exact ⟨trivial, rfl⟩)
/-- each wheel from none to its play behind the one ahead -/
def Stand : Int → List Int → List Int → Prop
  | _, [], [] => True
  | a, p :: ps, x :: xs => 0 ≤ a - x ∧ a - x ≤ p ∧ Stand x ps xs
  | _, _, _ => False
theorem Stand.len : ∀ {a : Int} {ps xs : List Int}, Stand a ps xs → xs.length = ps.length
  | _, [], [], _ => rfl
  | _, p :: ps, x :: xs, h => by simp [Stand.len h.2.2]
  | _, [], _ :: _, h => h.elim
  | _, _ :: _, [], h => h.elim
theorem v_arePlaces {d : Int} {ps xs : List Int} (hI : T "is_integer" = some v_is_integer) (hT : T "are_places" = some v_are_places) (h : Stand d ps xs) : call T (k + 2) "are_places" [.v (vL ps), .v (.int d), .v (vL xs)] = .ok (.d (.bool true)) [] := call_mk hT rfl (by decide) (by
  have k1 := fun i => v_isI (k := k) (i := i) hI
  have hl := h.len
  have hl2 : ((((vI xs).length : Nat) : Int) == (((vI ps).length : Nat) : Int)) = true := by rw [List.length_map, List.length_map, hl]; simp
  simp only [v_are_places]
  walk_at "run"
  rw [zipD_map]
  clear hl2
  refine for_map _ (fun us ρ => ∃ (a : Int) (o1 o2 : Option D), ρ = [.v (vL ps), .v (.int d), .v (vL xs), .v (.int a), jk o1, jk o2] ∧ ∃ qs ys, ps.zip xs = us ++ qs.zip ys ∧ Stand a qs ys) ⟨d, none, none, rfl, ps, xs, rfl, h⟩ ?_ ?_
  · rintro us ⟨p, y⟩ ws ρ e ⟨a, o1, o2, rfl, qs, ys, e2, st⟩
    rw [e] at e2
    have e3 := List.append_cancel_left e2
    cases qs with
    | nil => simp at e3
    | cons q qs => cases ys with
      | nil => simp at e3
      | cons y' ys =>
        rw [List.zip_cons_cons] at e3
        obtain ⟨e4, e5⟩ := List.cons.inj e3
        cases e4
        obtain ⟨s1, s2, s3⟩ := st
        have d1 := decide_eq_true s1
        have d2 := decide_eq_true s2
        have e6 : Hd (ps.zip xs = (us ++ [(p, y)]) ++ qs.zip ys) := ⟨by rw [e, e5]; simp⟩
        clear e e2 e3 e5
        refine ⟨_, rfl, ?_⟩
        walk_at "run"
        exact ⟨y, some (.int p), some (.int y), rfl, qs, ys, e6.h, s3⟩
  · rintro ρ ⟨a, o1, o2, rfl, _⟩
    walk_at "run"
    exact ⟨trivial, rfl⟩)
theorem v_checkState {r d : Int} {ps xs : List Int} (hI : T "is_integer" = some v_is_integer) (hP : T "is_pair" = some v_is_pair) (hS : T "are_places" = some v_are_places) (hT : T "check_state" = some v_check_state) (h : Stand d ps xs) : call T (k + 3) "check_state" [.v (vP r ps), .v (vP d xs)] = .ok (.d .none) [] := call_mk hT rfl (by decide) (by
  have k1 := v_isP (k := k + 1) (a := .int d) (b := vL xs) hP
  have k2 := v_isI (k := k + 1) (i := d) hI
  have k3 := v_arePlaces (k := k) hI hS h
  simp only [v_check_state]
  walk_at "run"
  exact ⟨trivial, rfl⟩)
theorem v_checkDial {d : Int} (hI : T "is_integer" = some v_is_integer) (hT : T "check_dial" = some v_check_dial) : call T (k + 2) "check_dial" [.v (.int d)] = .ok (.d .none) [] := call_mk hT rfl (by decide) (by
  have k1 := v_isI (k := k) (i := d) hI
  simp only [v_check_dial]
  walk_at "run"
  exact ⟨trivial, rfl⟩)
def Turns (ts : List Int) : Prop := ts.length ≤ 60 ∧ ∀ t ∈ ts, t ≠ 0
theorem v_checkTurns {ts : List Int} (hI : T "is_integer" = some v_is_integer) (hU : T "is_turn" = some v_is_turn) (hT : T "check_turns" = some v_check_turns) (ht : Turns ts) : call T (k + 3) "check_turns" [.v (vL ts)] = .ok (.d .none) [] := call_mk hT rfl (by decide) (by
  have h1 : decide ((60 : Int) < ((vI ts).length : Nat)) = false := by rw [List.length_map]; have := ht.1; exact decide_eq_false (by omega)
  simp only [v_check_turns]
  walk_at "run"
  rw [enumD_map]
  refine for_map _ (fun us ρ => ∃ o1 o2 : Option D, ρ = [.v (vL ts), jk o1, jk o2]) ⟨none, none, rfl⟩ ?_ ?_
  · rintro us ⟨u, i⟩ ws ρ e ⟨o1, o2, rfl⟩
    have hm : (u, i) ∈ ts.zipIdx := by rw [e]; simp
    have hz := ht.2 u (List.mem_of_getElem? (List.mk_mem_zipIdx_iff_getElem?.mp hm))
    have k1 := v_isT (k := k) (i := u) hI hU
    rw [show (u == 0) = false by simpa using hz] at k1
    clear e
    refine ⟨_, rfl, ?_⟩
    walk_at "run"
    exact ⟨some (.int i), some (.int u), rfl⟩
  · rintro ρ ⟨o1, o2, rfl⟩
    exact ⟨rfl, rfl⟩)
end
end VM

set_option Elab.async false
set_option linter.all false
set_option maxRecDepth 100000
set_option maxHeartbeats 4000000
set_option exponentiation.threshold 5000
namespace VM
open PySem PySem.Spec PyProof.Rows L2 Dl
open IR (Hid Br br_mk br_t br_f OnO onO_some If if_t if_mk)
local macro_rules | `(tactic| walk_at "run") => `(tactic| simp (disch := omega) only [↓s_nil, ↓s_tnx, ↓s_trt, ↓s_tro, ↓s_tbk, ↓s_tct, ↓s_txx, ↓s_cons, ↓s_frz, ↓s_set, ↓s_seto, ↓s_par, ↓s_tset, ↓s_setix, ↓s_ife, ↓s_for, ↓s_ret, ↓s_rets, ↓s_reto, ↓s_retN, ↓s_expr, ↓s_pass, ↓s_brk, ↓s_cont, ↓w_int, ↓w_bl, ↓w_non, ↓w_str, ↓w_loc, ↓w_bin, ↓w_cmp, ↓w_chain, ↓w_and, ↓w_or, ↓w_not, ↓w_neg, ↓w_ite, ↓w_tup, ↓w_fr, ↓w_callV, ↓w_call, ↓w_callk, ↓w_ix, ↓w_bi, ↓w_isi, ↓w_app, ↓o_lst, ↓o_rep, ↓o_slice, ↓o_lof, ↓o_lzip, ↓o_lc, ↓o_call, ↓o_callk, ↓vs_nil, ↓vs_cons, ↓ds_nil, ↓ds_cons, ↓ep_none, ↓ep_some, ↓sl_nil, ↓sl_t, ↓sl_f, ↓t_and, ↓t_or, ↓t_not, ↓t_tru, ↓tl_nil, ↓tl_one, ↓i_over, ↓i_rng1, ↓i_rng2, ↓i_rng3, ↓i_zip, ↓i_enum, ↓wp_ok, ↓wp_dR, ↓w_d1, ↓wp_bind, ↓wp_next, ↓wp_ret, ↓wp_reto, ↓wp_brk, ↓wp_cont, ↓wpc_ok, ↓wpc_err, ↓onD_d, ↓onI_int, ↓onB_bl, ↓onR_ref, ↓onW_ow, ↓at_z, ↓at_s, ↓slV_v, ↓slV_ow, ↓slV_io, ↓slO_ow, ↓br_t, ↓br_f, ↓if_t, ↓onO_some, ↓plain_jk, ↓plain_v, ↓plain_un, ↓se_eq, ↓as_nm, ↓as_tl, ↓as_tt, ↓as_nil, ↓as_cons, ↓sa_nil, ↓sa_cons, ↓frS_ow, ↓frS_v, ↓frS_un, ↓frS_jk, ↓atF_z, ↓atF_s, ↓fz_nil, ↓fz_cons, ↓slX_ow, ↓slX_io, ↓v_d, ↓v_r, ↓vl_nil, ↓vl_d, ↓vl_r, ↓ix_set, ↓ap_eq, ↓ta_nil, ↓ta_d, ↓ta_r, ↓pu_nil, ↓pu_d, ↓pu_r, ↓rc_ow, ↓rc_io, ↓rt_d, ↓rt_o, ↓tr_b, ↓tr_n, ↓tr_l, ↓tr_t, ↓tr_i, ↓sq_l, ↓sq_t, ↓ls_l, ↓b_add, ↓b_sub, ↓b_mul, ↓b_fdiv, ↓b_mod, ↓b_pow, ↓b_cat, ↓c_lt, ↓c_le, ↓c_gt, ↓c_ge, ↓c_eqI, ↓c_neI, ↓c_eqB, ↓c_neB, ↓c_eqS, ↓c_neS, ↓c_eqL, ↓c_neL, ↓i_l, ↓i_t, ↓f_lenL, ↓f_lenT, ↓f_abs, ↓f_max, ↓f_min, ↓f_int, ↓f_intB, ↓f_tupL, ↓f_tupT, ↓f_sum, ↓f_all, ↓f_any, ↓f_maxL, ↓f_minL, ↓f_reprL, ↓f_reprT, ↓f_reprI, ↓asInts_map, ↓asBools_map, ↓decide_self, ↓IR.atI_0, ↓IR.atI_1, ↓IR.atI_2, ↓IR.atI_3, ↓IR.atI_end, ↓IR.ixN_0, ↓IR.ixN_1, ↓IR.ixN_2, ↓k_int, ↓n_int, ↓c_isN_int, ↓c_isnN_int, ↓is_int_int, ↓is_int_bool, ↓is_int_str, ↓is_int_list, ↓is_int_tuple, ↓k_bool, ↓n_bool, ↓c_isN_bool, ↓c_isnN_bool, ↓is_bool_int, ↓is_bool_bool, ↓is_bool_str, ↓is_bool_list, ↓is_bool_tuple, ↓k_str, ↓n_str, ↓c_isN_str, ↓c_isnN_str, ↓is_str_int, ↓is_str_bool, ↓is_str_str, ↓is_str_list, ↓is_str_tuple, ↓k_none, ↓n_none, ↓c_isN_none, ↓c_isnN_none, ↓is_none_int, ↓is_none_bool, ↓is_none_str, ↓is_none_list, ↓is_none_tuple, ↓k_list, ↓n_list, ↓c_isN_list, ↓c_isnN_list, ↓is_list_int, ↓is_list_bool, ↓is_list_str, ↓is_list_list, ↓is_list_tuple, ↓k_tuple, ↓n_tuple, ↓c_isN_tuple, ↓c_isnN_tuple, ↓is_tuple_int, ↓is_tuple_bool, ↓is_tuple_str, ↓is_tuple_list, ↓is_tuple_tuple, List.set_cons_zero, List.set_cons_succ, List.map_cons, List.map_nil, List.cons_append, List.nil_append, List.append_nil, List.replicate_succ, List.replicate_zero, List.length_cons, List.length_nil, List.getElem?_cons_zero, List.getElem?_cons_succ, List.getD_cons_zero, List.getD_cons_succ, List.all_cons, List.all_nil, Nat.reduceAdd, Nat.reduceSub, Nat.reduceLeDiff, List.isEmpty_nil, List.isEmpty_cons, Int.reduceToNat, Int.reducePow, Int.reduceAdd, Int.reduceSub, Int.reduceMul, Int.reduceNeg, Int.reduceLT, Int.reduceLE, Bool.true_and, Bool.and_true, Bool.false_and, Bool.and_false, Bool.not_true, Bool.not_false, Bool.true_or, Bool.or_true, Bool.false_or, Bool.or_false, Bool.and_self, decide_true, decide_false, wipeE, restE, exists_eq_left', exists_eq_left, Option.some.injEq, Option.getD_some, nc_0, nc_1, nc_2, nc_3, nc_4, nc_5, nc_6, nc_7, nc_8, Int.natCast_one, Int.natCast_zero, beq_self_eq_true, Int.reduceBEq, Int.reduceBNe, *])
local macro_rules | `(tactic| walk_at "line") => `(tactic| (first | (with_reducible apply decide_eq_true; exact Nat.le_trans (by first | (simp only [List.length_cons, List.length_nil, List.length_append, List.length_map, List.length_range, List.length_zip]; omega) | omega) (by decide : 100000 ≤ sizeLine)) | (with_reducible apply decide_eq_true; exact Nat.lt_of_le_of_lt (by first | (simp only [List.length_cons, List.length_nil, List.length_append, List.length_map, List.length_range, List.length_zip]; omega) | omega) (by decide : 100000 < sizeLine)) | (with_reducible exact IR.line_le (by omega)) | (with_reducible exact IR.line_lt (by omega))))
local macro_rules | `(tactic| walk_at "num") => `(tactic| (first | (simp only [IR.big, IR.wid, IR.small, Bool.and_eq_true, decide_eq_true_eq]; omega) | (simp only [IR.big, IR.wid, IR.small, Bool.and_eq_true, decide_eq_true_eq]; refine ⟨?_, ?_⟩ <;> omega)))
local macro_rules | `(tactic| walk_at "go") => `(tactic| first | walk_at "run" | ((with_reducible refine if_mk ?gu ?_); (case gu => first | walk_at "num" | walk_at "line")))
local macro_rules | `(tactic| walk_at "goc") => `(tactic| first | walk_at "run" | ((with_reducible apply dr_v); (case hT => assumption); (case hc => assumption); (case hm => omega); (case hm2 => omega); (case hk => omega); intro r cs e1 e2 hc) | ((with_reducible refine if_mk ?gu ?_); (case gu => first | walk_at "num" | walk_at "line")))
structure TLk (T : Str → Option Fn) : Prop where
  int : T "is_integer" = some v_is_integer
  al : T "is_at_least" = some v_is_at_least
  pair : T "is_pair" = some v_is_pair
  plays : T "are_plays" = some v_are_plays
  lock : T "check_lock" = some v_check_lock
structure TTu (T : Str → Option Fn) : Prop where
  turn : T "is_turn" = some v_is_turn
  turns : T "check_turns" = some v_check_turns
structure TSt (T : Str → Option Fn) : Prop where
  places : T "are_places" = some v_are_places
  state : T "check_state" = some v_check_state
theorem TLk.checkLock {T : Str → Option Fn} (t : TLk T) {k : Nat} {r : Int} {ps : List Int} (hr : 2 ≤ r) (h : Plays ps) : call T (k + 4) "check_lock" [.v (vP r ps)] = .ok (.d .none) [] := v_checkLock t.int t.al t.pair t.plays t.lock hr h
/-- one turn -/
def turnL (t : Int) : Int → List Int → List Int → List Int
  | a, p :: ps, x :: xs => (if 0 < t then max x (a - p) else min x a) :: turnL t (if 0 < t then max x (a - p) else min x a) ps xs
  | _, _, _ => []
theorem turnL_snoc {t : Int} : ∀ (ps xs : List Int) (a p x : Int), ps.length = xs.length → turnL t a (ps ++ [p]) (xs ++ [x]) = turnL t a ps xs ++ [if 0 < t then max x ((turnL t a ps xs).getLastD a - p) else min x ((turnL t a ps xs).getLastD a)]
  | [], [], a, p, x, _ => rfl
  | [], _ :: _, _, _, _, h => by simp at h
  | _ :: _, [], _, _, _, h => by simp at h
  | q :: ps, y :: xs, a, p, x, h => by
    simp only [List.cons_append, turnL, turnL_snoc ps xs _ p x (by simpa using h), List.getLastD_cons]
theorem turnL_len {t : Int} : ∀ (ps xs : List Int) (a : Int), ps.length = xs.length → (turnL t a ps xs).length = xs.length
  | [], [], _, _ => rfl
  | [], _ :: _, _, h => by simp at h
  | _ :: _, [], _, h => by simp at h
  | q :: ps, y :: xs, a, h => by simp [turnL, turnL_len ps xs _ (by simpa using h)]
theorem zip_split {α β : Type} : ∀ {ps : List α} {xs : List β} {us : List (α × β)} {u : α × β} {ws : List (α × β)}, ps.zip xs = us ++ u :: ws → us = (ps.take us.length).zip (xs.take us.length) ∧ ps.take (us.length + 1) = ps.take us.length ++ [u.1] ∧ xs.take (us.length + 1) = xs.take us.length ++ [u.2]
  | [], _, us, u, ws, h => by simp at h
  | _ :: _, [], us, u, ws, h => by simp at h
  | p :: ps, x :: xs, [], u, ws, h => by
    rw [List.zip_cons_cons] at h
    obtain ⟨h1, h2⟩ := List.cons.inj h
    subst h1; exact ⟨rfl, rfl, rfl⟩
  | p :: ps, x :: xs, v :: us, u, ws, h => by
    rw [List.zip_cons_cons] at h
    obtain ⟨h1, h2⟩ := List.cons.inj h
    obtain ⟨g1, g2, g3⟩ := zip_split h2
    subst h1
    refine ⟨?_, ?_, ?_⟩
    · rw [List.length_cons, List.take_succ_cons, List.take_succ_cons, List.zip_cons_cons, ← g1]
    · rw [List.length_cons, List.take_succ_cons, g2, List.take_succ_cons]; rfl
    · rw [List.length_cons, List.take_succ_cons, g3, List.take_succ_cons]; rfl
theorem getLastD_snoc {α : Type} (xs : List α) (x d : α) : (xs ++ [x]).getLastD d = x := by simp [List.getLastD_eq_getLast?]
section
variable {T : Str → Option Fn} {k : Nat}
theorem v_turnedOnce {r d t : Int} {ps xs : List Int} (hT : T "_turned_once" = some v_turned_once) (hl : ps.length = xs.length) (h8 : ps.length ≤ 8) : call T (k + 1) "_turned_once" [.v (vP r ps), .v (vP d xs), .v (.int t)] = .ok (.d (vP (d + t) (turnL t (d + t) ps xs))) [] := call_mk hT rfl (by decide) (by
  simp only [v_turned_once]
  repeat walk_at "go"
  rw [zipD_map]
  refine for_map _ (fun us ρ => ∃ (o1 o2 : Option D), ρ = [.v (vP r ps), .v (vP d xs), .v (.int t), .v (.int d), .v (vL xs), .v (.int (d + t)), .ow (vI (turnL t (d + t) (ps.take us.length) (xs.take us.length))), .v (.int ((turnL t (d + t) (ps.take us.length) (xs.take us.length)).getLastD (d + t))), jk o1, jk o2]) ⟨none, none, rfl⟩ ?_ ?_
  · rintro us ⟨p, y⟩ ws ρ e ⟨o1, o2, rfl⟩
    obtain ⟨h1, h2, h3⟩ := zip_split e
    have hlen : us.length < ps.length := by have := congrArg List.length e; rw [List.length_zip] at this; simp at this; omega
    have hs := turnL_snoc (t := t) (ps.take us.length) (xs.take us.length) (d + t) p y (by simp [hl])
    have ht := turnL_len (t := t) (ps.take us.length) (xs.take us.length) (d + t) (by simp [hl])
    have e5 : Hd (turnL t (d + t) (ps.take (us ++ [(p, y)]).length) (xs.take (us ++ [(p, y)]).length) = turnL t (d + t) (ps.take us.length) (xs.take us.length) ++ [if 0 < t then max y ((turnL t (d + t) (ps.take us.length) (xs.take us.length)).getLastD (d + t) - p) else min y ((turnL t (d + t) (ps.take us.length) (xs.take us.length)).getLastD (d + t))]) := ⟨by rw [List.length_append, List.length_singleton, h2, h3]; exact hs⟩
    clear e h1 h2 h3 hs
    have hv : (vI (turnL t (d + t) (ps.take us.length) (xs.take us.length))).length ≤ 8 := by rw [List.length_map, ht, List.length_take]; omega
    generalize turnL t (d + t) (ps.take us.length) (xs.take us.length) = V at *
    refine ⟨_, rfl, ?_⟩
    by_cases c : 0 < t
    · have d1 := decide_eq_true c
      have e6 := e5.h
      rw [if_pos c] at e6
      have e6 := Hd.mk e6
      clear e5 ht
      repeat walk_at "go"
      exact ⟨some (.int p), some (.int y), by simp only [e6.h, getLastD_snoc, vI, jk, List.map_append, List.map_cons, List.map_nil]⟩
    · have d1 := decide_eq_false c
      have e6 := e5.h
      rw [if_neg c] at e6
      have e6 := Hd.mk e6
      clear e5 ht
      repeat walk_at "go"
      exact ⟨some (.int p), some (.int y), by simp only [e6.h, getLastD_snoc, vI, jk, List.map_append, List.map_cons, List.map_nil]⟩
  · rintro ρ ⟨o1, o2, rfl⟩
    have e1 : ps.take (ps.zip xs).length = ps := List.take_of_length_le (by rw [List.length_zip]; omega)
    have e2 : xs.take (ps.zip xs).length = xs := List.take_of_length_le (by rw [List.length_zip]; omega)
    rw [e1, e2]
    repeat walk_at "go"
    exact ⟨trivial, rfl⟩)
/-! ## many turns -/
abbrev St := Int × List Int
abbrev vS (s : St) : D := vP s.1 s.2
def stepS (ps : List Int) (s : St) (t : Int) : St := (s.1 + t, turnL t (s.1 + t) ps s.2)
def runS (ps : List Int) (s : St) (ts : List Int) : St := ts.foldl (stepS ps) s
theorem runS_snoc {ps : List Int} {s : St} {ts : List Int} {t : Int} : runS ps s (ts ++ [t]) = stepS ps (runS ps s ts) t := by simp [runS]
theorem runS_app {ps : List Int} {s : St} {ts us : List Int} : runS ps s (ts ++ us) = runS ps (runS ps s ts) us := by simp [runS]
theorem runS_dial {ps : List Int} : ∀ {ts : List Int} {s : St}, (runS ps s ts).1 = s.1 + ts.sum
  | [], s => by simp [runS]
  | t :: ts, s => by
    have := runS_dial (ps := ps) (ts := ts) (s := stepS ps s t)
    show (runS ps (stepS ps s t) ts).1 = _
    rw [this, List.sum_cons]; simp only [stepS]; omega
theorem runS_len {ps : List Int} : ∀ {ts : List Int} {s : St}, s.2.length = ps.length → (runS ps s ts).2.length = ps.length
  | [], s, h => h
  | t :: ts, s, h => runS_len (ts := ts) (s := stepS ps s t) (by rw [stepS, turnL_len _ _ _ h.symm]; exact h)
def trailS (ps : List Int) : St → List Int → List St
  | _, [] => []
  | s, t :: ts => stepS ps s t :: trailS ps (stepS ps s t) ts
theorem trailS_snoc {ps : List Int} : ∀ {ts : List Int} {s : St} {t : Int}, trailS ps s (ts ++ [t]) = trailS ps s ts ++ [runS ps s (ts ++ [t])]
  | [], s, t => rfl
  | u :: ts, s, t => by
    show stepS ps s u :: trailS ps (stepS ps s u) (ts ++ [t]) = _
    rw [trailS_snoc]; rfl
theorem trailS_len {ps : List Int} : ∀ {ts : List Int} {s : St}, (trailS ps s ts).length = ts.length
  | [], _ => rfl
  | t :: ts, s => by simp [trailS, trailS_len]
structure TTr (T : Str → Option Fn) : Prop extends TLk T, TTu T, TSt T where
  once : T "_turned_once" = some v_turned_once
  trail : T "state_trail" = some v_state_trail
theorem v_stateTrail {r : Int} {ps : List Int} {s : St} {ts : List Int} (t : TTr T) (hr : 2 ≤ r) (hp : Plays ps) (hs : Stand s.1 ps s.2) (ht : Turns ts) : call T (k + 5) "state_trail" [.v (vP r ps), .v (vS s), .v (vL ts)] = .ok (.d (.list ((trailS ps s ts).map vS))) [] := call_mk t.trail rfl (by decide) (by
  obtain ⟨d, xs⟩ := s
  have k1 := t.toTLk.checkLock (k := k) hr hp
  have k2 := v_checkState (k := k + 1) (r := r) t.int t.pair t.places t.state hs
  have k3 := v_checkTurns (k := k + 1) t.int t.turn t.turns ht
  have hl := hs.len
  simp only [v_state_trail, vS] at k1 k2 k3 ⊢
  repeat walk_at "go"
  clear k1 k2 k3
  refine for_map _ (fun us ρ => ∃ (o1 : Option D), ρ = [.v (vP r ps), .v (vP d xs), .v (vL ts), .ow ((trailS ps (d, xs) us).map vS), .v (vS (runS ps (d, xs) us)), jk o1]) ⟨none, rfl⟩ ?_ ?_
  · rintro us u ws ρ e ⟨o1, rfl⟩
    have len := congrArg List.length e
    have h60 := ht.1
    simp only [List.length_append, List.length_cons] at len
    have hv : ((trailS ps (d, xs) us).map vS).length = us.length := by rw [List.length_map, trailS_len]
    have hrl := runS_len (ps := ps) (ts := us) (s := (d, xs)) hl
    have e5 : Hd ((trailS ps (d, xs) (us ++ [u])).map vS = (trailS ps (d, xs) us).map vS ++ [vS (runS ps (d, xs) (us ++ [u]))] ∧ runS ps (d, xs) (us ++ [u]) = stepS ps (runS ps (d, xs) us) u) := ⟨by rw [trailS_snoc]; simp, runS_snoc⟩
    have k4 := v_turnedOnce (T := T) (k := k + 3) (r := r) (d := (runS ps (d, xs) us).1) (t := u) (ps := ps) (xs := (runS ps (d, xs) us).2) t.once hrl.symm hp.most
    clear e
    generalize (trailS ps (d, xs) us).map vS = V at *
    generalize runS ps (d, xs) us = R at *
    refine ⟨_, rfl, ?_⟩
    repeat walk_at "go"
    exact ⟨some (.int u), by simp only [e5.h, stepS, jk, vS]⟩
  · rintro ρ ⟨o1, rfl⟩
    repeat walk_at "go"
    exact ⟨trivial, rfl⟩)
structure TTd (T : Str → Option Fn) : Prop extends TTr T where
  turned : T "turned_state" = some v_turned_state
theorem v_turnedState {r : Int} {ps : List Int} {s : St} {ts : List Int} (t : TTd T) (hr : 2 ≤ r) (hp : Plays ps) (hs : Stand s.1 ps s.2) (ht : Turns ts) : call T (k + 6) "turned_state" [.v (vP r ps), .v (vS s), .v (vL ts)] = .ok (.d (vS (runS ps s ts))) [] := call_mk t.turned rfl (by decide) (by
  have k1 := v_stateTrail (k := k) t.toTTr hr hp hs ht
  obtain ⟨d, xs⟩ := s
  rcases List.eq_nil_or_concat ts with rfl | ⟨us, u, rfl⟩
  · simp only [v_turned_state, vS, trailS, runS, List.foldl_nil] at k1 ⊢
    repeat walk_at "go"
    exact ⟨trivial, rfl⟩
  · rw [List.concat_eq_append] at *
    rw [trailS_snoc, List.map_append, List.map_cons, List.map_nil] at k1
    have ne : ((trailS ps (d, xs) us).map vS ++ [vS (runS ps (d, xs) (us ++ [u]))]).isEmpty = false := by simp
    simp only [v_turned_state, vS] at k1 ne ⊢
    generalize (trailS ps (d, xs) us).map (fun s => vP s.1 s.2) = V at *
    generalize runS ps (d, xs) (us ++ [u]) = R at *
    repeat walk_at "go"
    exact ⟨trivial, rfl⟩)
/-! ## pushed -/
def upL : Int → List Int → List Int
  | _, [] => []
  | a, p :: ps => (a - p) :: upL (a - p) ps
theorem upL_snoc : ∀ (ps : List Int) (a p : Int), upL a (ps ++ [p]) = upL a ps ++ [(upL a ps).getLastD a - p]
  | [], _, _ => rfl
  | q :: ps, a, p => by
    simp only [List.cons_append, upL, upL_snoc ps]
    rw [List.getLastD_cons]
theorem upL_len : ∀ (ps : List Int) (a : Int), (upL a ps).length = ps.length
  | [], _ => rfl
  | q :: ps, a => by simp [upL, upL_len ps]
theorem upL_stand : ∀ (ps : List Int) (a : Int), (∀ p ∈ ps, 0 ≤ p) → Stand a ps (upL a ps)
  | [], _, _ => trivial
  | p :: ps, a, h => ⟨by have := h p (by simp); omega, by omega, upL_stand ps _ fun q hq => h q (by simp [hq])⟩
theorem back_stand : ∀ (ps : List Int) (a : Int), (∀ p ∈ ps, 0 ≤ p) → Stand a ps (List.replicate ps.length a)
  | [], _, _ => trivial
  | p :: ps, a, h => ⟨by omega, by have := h p (by simp); omega, back_stand ps _ fun q hq => h q (by simp [hq])⟩
theorem v_pushedUp {r d : Int} {ps : List Int} (t : TLk T) (hd : T "check_dial" = some v_check_dial) (hT : T "pushed_up" = some v_pushed_up) (hr : 2 ≤ r) (hp : Plays ps) : call T (k + 5) "pushed_up" [.v (vP r ps), .v (.int d)] = .ok (.d (vP d (upL d ps))) [] := call_mk hT rfl (by decide) (by
  have k1 := t.checkLock (k := k) hr hp
  have k2 := v_checkDial (k := k + 2) (d := d) t.int hd
  simp only [v_pushed_up]
  repeat walk_at "go"
  clear k1 k2
  refine for_map _ (fun us ρ => ∃ (o1 : Option D), ρ = [.v (vP r ps), .v (.int d), .ow (vI (upL d us)), .v (.int ((upL d us).getLastD d)), jk o1]) ⟨none, rfl⟩ ?_ ?_
  · rintro us u ws ρ e ⟨o1, rfl⟩
    have len := congrArg List.length e
    have h8 := hp.most
    simp only [List.length_append, List.length_cons] at len
    have hv : (vI (upL d us)).length = us.length := by rw [List.length_map, upL_len]
    have e5 := Hd.mk (upL_snoc us d u)
    clear e
    generalize upL d us = V at *
    refine ⟨_, rfl, ?_⟩
    repeat walk_at "go"
    exact ⟨some (.int u), by simp only [e5.h, getLastD_snoc, vI, jk, List.map_append, List.map_cons, List.map_nil]⟩
  · rintro ρ ⟨o1, rfl⟩
    repeat walk_at "go"
    exact ⟨trivial, rfl⟩)
theorem repL_int {d : Int} {n : Nat} : repL [.int d] n = vI (List.replicate n d) := by
  unfold repL
  induction n with
  | zero => rfl
  | succ n ih => rw [List.replicate_succ, List.flatten_cons, ih, List.replicate_succ]; rfl
theorem v_pushedBack {r d : Int} {ps : List Int} (t : TLk T) (hd : T "check_dial" = some v_check_dial) (hT : T "pushed_back" = some v_pushed_back) (hr : 2 ≤ r) (hp : Plays ps) : call T (k + 5) "pushed_back" [.v (vP r ps), .v (.int d)] = .ok (.d (vP d (List.replicate ps.length d))) [] := call_mk hT rfl (by decide) (by
  have k1 := t.checkLock (k := k) hr hp
  have k2 := v_checkDial (k := k + 2) (d := d) t.int hd
  have h8 := hp.most
  have rp : repL [.int d] ((((vI ps).length : Nat) : Int)).toNat = vI (List.replicate ps.length d) := by rw [Int.toNat_natCast, List.length_map]; exact repL_int
  have g : (IR.small (((vI ps).length : Nat) : Int) && decide (1 * (((vI ps).length : Nat) : Int).toNat ≤ sizeLine)) = true := by
    rw [List.length_map, Int.toNat_natCast]
    simp only [IR.small, Bool.and_eq_true, decide_eq_true_eq]
    exact ⟨⟨by omega, by omega⟩, Nat.le_trans (by omega) (by decide : 100 ≤ sizeLine)⟩
  simp only [v_pushed_back]
  repeat walk_at "go"
  exact ⟨trivial, rfl⟩)
end
end VM

set_option Elab.async false
set_option linter.all false
set_option maxRecDepth 100000
set_option maxHeartbeats 4000000
set_option exponentiation.threshold 30000
namespace VM
open PySem PySem.Spec PyProof.Rows L2 Dl
open IR (Hid Br br_mk br_t br_f OnO onO_some If if_t if_mk)
/-! ## draws -/
def Coil (k : Nat) (cs : List D) : Prop := ∃ a b n : Int, cs = [.int a, .int b, .int n] ∧ 0 ≤ a ∧ 0 ≤ b ∧ b < 10 ^ 27 ∧ 0 ≤ n ∧ n ≤ k
theorem Coil.mono {j k : Nat} {cs : List D} (c : Coil j cs) (h : j ≤ k) : Coil k cs := by
  obtain ⟨a, b, n, e, h1, h2, h3, h4, h5⟩ := c
  exact ⟨a, b, n, e, h1, h2, h3, h4, by omega⟩
section
variable {K : D → Prop} {a b c d e r : Int}
theorem pk2 (h0 : 0 ≤ r) (h1 : r < 2) (h : ∀ z, z = a ∨ z = b → K (.int z)) : OnO (atI [.int a, .int b] r) K := by
  rcases (by omega : r = 0 ∨ r = 1) with rfl | rfl
  · exact h a (by simp)
  · exact h b (by simp)
theorem pk3 (h0 : 0 ≤ r) (h1 : r < 3) (h : ∀ z, z = a ∨ z = b ∨ z = c → K (.int z)) : OnO (atI [.int a, .int b, .int c] r) K := by
  rcases (by omega : r = 0 ∨ r = 1 ∨ r = 2) with rfl | rfl | rfl
  · exact h a (by simp)
  · exact h b (by simp)
  · exact h c (by simp)
theorem pk4 (h0 : 0 ≤ r) (h1 : r < 4) (h : ∀ z, z = a ∨ z = b ∨ z = c ∨ z = d → K (.int z)) : OnO (atI [.int a, .int b, .int c, .int d] r) K := by
  rcases (by omega : r = 0 ∨ r = 1 ∨ r = 2 ∨ r = 3) with rfl | rfl | rfl | rfl
  · exact h a (by simp)
  · exact h b (by simp)
  · exact h c (by simp)
  · exact h d (by simp)
theorem pk5 (h0 : 0 ≤ r) (h1 : r < 5) (h : ∀ z, z = a ∨ z = b ∨ z = c ∨ z = d ∨ z = e → K (.int z)) : OnO (atI [.int a, .int b, .int c, .int d, .int e] r) K := by
  rcases (by omega : r = 0 ∨ r = 1 ∨ r = 2 ∨ r = 3 ∨ r = 4) with rfl | rfl | rfl | rfl | rfl
  · exact h a (by simp)
  · exact h b (by simp)
  · exact h c (by simp)
  · exact h d (by simp)
  · exact h e (by simp)
end
section
variable {T : Str → Option Fn} {k j : Nat} {Q : Ret → List (List D) → Prop} {X : Exn → List (List D) → Prop}
theorem bg_mk {i : Int} (h : i.natAbs < 10 ^ 300) : IR.big i = true := IR.bigOf (Nat.lt_of_lt_of_le h (by decide +kernel))
theorem wd_mk {i : Int} (h : i.natAbs < 10 ^ 300) : IR.wid i = true := decide_eq_true (Nat.lt_of_lt_of_le h (by decide +kernel))
local macro_rules | `(tactic| walk_at "run") => `(tactic| simp (disch := omega) only [↓s_nil, ↓s_tnx, ↓s_trt, ↓s_tro, ↓s_tbk, ↓s_tct, ↓s_txx, ↓s_cons, ↓s_frz, ↓s_set, ↓s_seto, ↓s_par, ↓s_tset, ↓s_setix, ↓s_ife, ↓s_for, ↓s_ret, ↓s_rets, ↓s_reto, ↓s_retN, ↓s_expr, ↓s_pass, ↓s_brk, ↓s_cont, ↓w_int, ↓w_bl, ↓w_non, ↓w_str, ↓w_loc, ↓w_bin, ↓w_cmp, ↓w_chain, ↓w_and, ↓w_or, ↓w_not, ↓w_neg, ↓w_ite, ↓w_tup, ↓w_fr, ↓w_callV, ↓w_call, ↓w_callk, ↓w_ix, ↓w_bi, ↓w_isi, ↓w_app, ↓o_lst, ↓o_rep, ↓o_slice, ↓o_lof, ↓o_lzip, ↓o_lc, ↓o_call, ↓o_callk, ↓vs_nil, ↓vs_cons, ↓ds_nil, ↓ds_cons, ↓ep_none, ↓ep_some, ↓sl_nil, ↓sl_t, ↓sl_f, ↓t_and, ↓t_or, ↓t_not, ↓t_tru, ↓tl_nil, ↓tl_one, ↓i_over, ↓i_rng1, ↓i_rng2, ↓i_rng3, ↓i_zip, ↓i_enum, ↓wp_ok, ↓wp_dR, ↓w_d1, ↓wp_bind, ↓wp_next, ↓wp_ret, ↓wp_reto, ↓wp_brk, ↓wp_cont, ↓wpc_ok, ↓wpc_err, ↓onD_d, ↓onI_int, ↓onB_bl, ↓onR_ref, ↓onW_ow, ↓at_z, ↓at_s, ↓slV_v, ↓slV_ow, ↓slV_io, ↓slO_ow, ↓br_t, ↓br_f, ↓if_t, ↓onO_some, ↓plain_jk, ↓plain_v, ↓plain_un, ↓se_eq, ↓as_nm, ↓as_tl, ↓as_tt, ↓as_nil, ↓as_cons, ↓sa_nil, ↓sa_cons, ↓frS_ow, ↓frS_v, ↓frS_un, ↓frS_jk, ↓atF_z, ↓atF_s, ↓fz_nil, ↓fz_cons, ↓slX_ow, ↓slX_io, ↓v_d, ↓v_r, ↓vl_nil, ↓vl_d, ↓vl_r, ↓ix_set, ↓ap_eq, ↓ta_nil, ↓ta_d, ↓ta_r, ↓pu_nil, ↓pu_d, ↓pu_r, ↓rc_ow, ↓rc_io, ↓rt_d, ↓rt_o, ↓tr_b, ↓tr_n, ↓tr_l, ↓tr_t, ↓tr_i, ↓sq_l, ↓sq_t, ↓ls_l, ↓b_add, ↓b_sub, ↓b_mul, ↓b_fdiv, ↓b_mod, ↓b_pow, ↓b_cat, ↓c_lt, ↓c_le, ↓c_gt, ↓c_ge, ↓c_eqI, ↓c_neI, ↓c_eqB, ↓c_neB, ↓c_eqS, ↓c_neS, ↓c_eqL, ↓c_neL, ↓i_l, ↓i_t, ↓f_lenL, ↓f_lenT, ↓f_abs, ↓f_max, ↓f_min, ↓f_int, ↓f_intB, ↓f_tupL, ↓f_tupT, ↓f_sum, ↓f_all, ↓f_any, ↓f_maxL, ↓f_minL, ↓f_reprL, ↓f_reprT, ↓f_reprI, ↓asInts_map, ↓asBools_map, ↓decide_self, ↓IR.atI_0, ↓IR.atI_1, ↓IR.atI_2, ↓IR.atI_3, ↓IR.atI_end, ↓IR.ixN_0, ↓IR.ixN_1, ↓IR.ixN_2, ↓k_int, ↓n_int, ↓c_isN_int, ↓c_isnN_int, ↓is_int_int, ↓is_int_bool, ↓is_int_str, ↓is_int_list, ↓is_int_tuple, ↓k_bool, ↓n_bool, ↓c_isN_bool, ↓c_isnN_bool, ↓is_bool_int, ↓is_bool_bool, ↓is_bool_str, ↓is_bool_list, ↓is_bool_tuple, ↓k_str, ↓n_str, ↓c_isN_str, ↓c_isnN_str, ↓is_str_int, ↓is_str_bool, ↓is_str_str, ↓is_str_list, ↓is_str_tuple, ↓k_none, ↓n_none, ↓c_isN_none, ↓c_isnN_none, ↓is_none_int, ↓is_none_bool, ↓is_none_str, ↓is_none_list, ↓is_none_tuple, ↓k_list, ↓n_list, ↓c_isN_list, ↓c_isnN_list, ↓is_list_int, ↓is_list_bool, ↓is_list_str, ↓is_list_list, ↓is_list_tuple, ↓k_tuple, ↓n_tuple, ↓c_isN_tuple, ↓c_isnN_tuple, ↓is_tuple_int, ↓is_tuple_bool, ↓is_tuple_str, ↓is_tuple_list, ↓is_tuple_tuple, List.set_cons_zero, List.set_cons_succ, List.map_cons, List.map_nil, List.cons_append, List.nil_append, List.append_nil, List.replicate_succ, List.replicate_zero, List.length_cons, List.length_nil, List.getElem?_cons_zero, List.getElem?_cons_succ, List.getD_cons_zero, List.getD_cons_succ, List.all_cons, List.all_nil, Nat.reduceAdd, Nat.reduceSub, Nat.reduceLeDiff, List.isEmpty_nil, List.isEmpty_cons, Int.reduceToNat, Int.reducePow, Int.reduceAdd, Int.reduceSub, Int.reduceMul, Int.reduceNeg, Int.reduceLT, Int.reduceLE, Bool.true_and, Bool.and_true, Bool.false_and, Bool.and_false, Bool.not_true, Bool.not_false, Bool.true_or, Bool.or_true, Bool.false_or, Bool.or_false, Bool.and_self, decide_true, decide_false, wipeE, restE, exists_eq_left', exists_eq_left, Option.some.injEq, Option.getD_some, nc_0, nc_1, nc_2, nc_3, nc_4, nc_5, nc_6, nc_7, nc_8, Int.natCast_one, Int.natCast_zero, beq_self_eq_true, Int.reduceBEq, Int.reduceBNe, *])
local macro_rules | `(tactic| walk_at "line") => `(tactic| (first | (with_reducible apply decide_eq_true; exact Nat.le_trans (by first | (simp only [List.length_cons, List.length_nil, List.length_append, List.length_map, List.length_range, List.length_zip]; omega) | omega) (by decide : 100000 ≤ sizeLine)) | (with_reducible apply decide_eq_true; exact Nat.lt_of_le_of_lt (by first | (simp only [List.length_cons, List.length_nil, List.length_append, List.length_map, List.length_range, List.length_zip]; omega) | omega) (by decide : 100000 < sizeLine)) | (with_reducible exact IR.line_le (by omega)) | (with_reducible exact IR.line_lt (by omega))))
local macro_rules | `(tactic| walk_at "num") => `(tactic| (first | (simp only [IR.big, IR.wid, IR.small, Bool.and_eq_true, decide_eq_true_eq]; omega) | (simp only [IR.big, IR.wid, IR.small, Bool.and_eq_true, decide_eq_true_eq]; refine ⟨?_, ?_⟩ <;> omega)))
local macro_rules | `(tactic| walk_at "go") => `(tactic| first | walk_at "run" | ((with_reducible refine if_mk ?gu ?_); (case gu => first | walk_at "num" | walk_at "line")))
local macro_rules | `(tactic| walk_at "goc") => `(tactic| first | walk_at "run" | ((with_reducible apply dr_v); (case hT => assumption); (case hc => assumption); (case hm => omega); (case hm2 => omega); (case hk => omega); intro r cs e1 e2 hc) | ((with_reducible apply pk2); (case h0 => assumption); (case h1 => assumption); intro z hz) | ((with_reducible apply pk3); (case h0 => assumption); (case h1 => assumption); intro z hz) | ((with_reducible apply pk4); (case h0 => assumption); (case h1 => assumption); intro z hz) | ((with_reducible apply pk5); (case h0 => assumption); (case h1 => assumption); intro z hz) | ((with_reducible refine if_mk ?gu ?_); (case gu => first | walk_at "num" | walk_at "line")))
theorem dr_v {cs : List D} {b : Int} (hT : T "_law_draw" = some v_law_draw) (hc : Coil j cs) (hm : 0 < b) (hm2 : b < 10 ^ 60) (hk : j ≤ 1000000) (h : ∀ r cs', 0 ≤ r → r < b → Coil (j + 1) cs' → Q (.d (.int r)) [cs']) : (call T (k + 1) "_law_draw" [.io 0 cs, .v (.int b)]).wp Q X := call_wp hT rfl (by decide) (by
  obtain ⟨a, b0, n, rfl, h1, h2, h3, h4, h5⟩ := hc
  have bb : IR.big b = true := bg_mk (by omega)
  by_cases c : 0 < a
  · have d1 := decide_eq_true c
    have d2 := decide_eq_true hm
    have d := Int.emod_nonneg a (by omega : b ≠ 0)
    have d' := Int.emod_lt_of_pos a hm
    have dd := Int.ediv_nonneg h1 (Int.le_of_lt hm)
    simp only [v_law_draw]
    repeat walk_at "go"
    exact h _ _ d d' ⟨_, _, _, rfl, dd, h2, h3, h4, by omega⟩
  · have d1 := decide_eq_false c
    have d2 := decide_eq_true hm
    have g1 : IR.wid 524287 = true := wd_mk (by decide)
    have g2 : IR.wid 6700417 = true := wd_mk (by decide)
    have g3 : IR.wid (n + 1) = true := wd_mk (by omega)
    have g4 : IR.big (b0 + 524287 * (n + 1)) = true := bg_mk (by omega)
    have y1 := Int.emod_nonneg ((b0 + 524287 * (n + 1)) ^ 3) (by decide : (100000000000000000000000000000000000000000031 : Int) ≠ 0)
    have y2 := Int.emod_lt_of_pos ((b0 + 524287 * (n + 1)) ^ 3) (by decide : (0 : Int) < 100000000000000000000000000000000000000000031)
    simp only [v_law_draw]
    repeat walk_at "go"
    exact h _ _ (Int.emod_nonneg _ (by omega)) (Int.emod_lt_of_pos _ hm) ⟨_, _, _, rfl, h1, h2, h3, by omega, by omega⟩)
local macro_rules | `(tactic| walk_at "run") => `(tactic| simp (disch := omega) only [↓s_nil, ↓s_tnx, ↓s_trt, ↓s_tro, ↓s_tbk, ↓s_tct, ↓s_txx, ↓s_cons, ↓s_frz, ↓s_set, ↓s_seto, ↓s_par, ↓s_tset, ↓s_setix, ↓s_ife, ↓s_for, ↓s_ret, ↓s_rets, ↓s_reto, ↓s_retN, ↓s_expr, ↓s_pass, ↓s_brk, ↓s_cont, ↓w_int, ↓w_bl, ↓w_non, ↓w_str, ↓w_loc, ↓w_bin, ↓w_cmp, ↓w_chain, ↓w_and, ↓w_or, ↓w_not, ↓w_neg, ↓w_ite, ↓w_tup, ↓w_fr, ↓w_callV, ↓w_call, ↓w_callk, ↓w_ix, ↓w_bi, ↓w_isi, ↓w_app, ↓o_lst, ↓o_rep, ↓o_slice, ↓o_lof, ↓o_lzip, ↓o_lc, ↓o_call, ↓o_callk, ↓vs_nil, ↓vs_cons, ↓ds_nil, ↓ds_cons, ↓ep_none, ↓ep_some, ↓sl_nil, ↓sl_t, ↓sl_f, ↓t_and, ↓t_or, ↓t_not, ↓t_tru, ↓tl_nil, ↓tl_one, ↓i_over, ↓i_rng1, ↓i_rng2, ↓i_rng3, ↓i_zip, ↓i_enum, ↓wp_ok, ↓wp_dR, ↓w_d1, ↓wp_bind, ↓wp_next, ↓wp_ret, ↓wp_reto, ↓wp_brk, ↓wp_cont, ↓wpc_ok, ↓wpc_err, ↓onD_d, ↓onI_int, ↓onB_bl, ↓onR_ref, ↓onW_ow, ↓at_z, ↓at_s, ↓slV_v, ↓slV_ow, ↓slV_io, ↓slO_ow, ↓br_t, ↓br_f, ↓if_t, ↓onO_some, ↓plain_jk, ↓plain_v, ↓plain_un, ↓se_eq, ↓as_nm, ↓as_tl, ↓as_tt, ↓as_nil, ↓as_cons, ↓sa_nil, ↓sa_cons, ↓frS_ow, ↓frS_v, ↓frS_un, ↓frS_jk, ↓atF_z, ↓atF_s, ↓fz_nil, ↓fz_cons, ↓slX_ow, ↓slX_io, ↓v_d, ↓v_r, ↓vl_nil, ↓vl_d, ↓vl_r, ↓ix_set, ↓ap_eq, ↓ta_nil, ↓ta_d, ↓ta_r, ↓pu_nil, ↓pu_d, ↓pu_r, ↓rc_ow, ↓rc_io, ↓rt_d, ↓rt_o, ↓tr_b, ↓tr_n, ↓tr_l, ↓tr_t, ↓tr_i, ↓sq_l, ↓sq_t, ↓ls_l, ↓b_add, ↓b_sub, ↓b_mul, ↓b_fdiv, ↓b_mod, ↓b_pow, ↓b_cat, ↓c_lt, ↓c_le, ↓c_gt, ↓c_ge, ↓c_eqI, ↓c_neI, ↓c_eqB, ↓c_neB, ↓c_eqS, ↓c_neS, ↓c_eqL, ↓c_neL, ↓i_l, ↓i_t, ↓f_lenL, ↓f_lenT, ↓f_abs, ↓f_max, ↓f_min, ↓f_int, ↓f_intB, ↓f_tupL, ↓f_tupT, ↓f_sum, ↓f_all, ↓f_any, ↓f_maxL, ↓f_minL, ↓f_reprL, ↓f_reprT, ↓f_reprI, ↓asInts_map, ↓asBools_map, ↓decide_self, ↓IR.atI_0, ↓IR.atI_1, ↓IR.atI_2, ↓IR.atI_3, ↓IR.atI_end, ↓IR.ixN_0, ↓IR.ixN_1, ↓IR.ixN_2, ↓k_int, ↓n_int, ↓c_isN_int, ↓c_isnN_int, ↓is_int_int, ↓is_int_bool, ↓is_int_str, ↓is_int_list, ↓is_int_tuple, ↓k_bool, ↓n_bool, ↓c_isN_bool, ↓c_isnN_bool, ↓is_bool_int, ↓is_bool_bool, ↓is_bool_str, ↓is_bool_list, ↓is_bool_tuple, ↓k_str, ↓n_str, ↓c_isN_str, ↓c_isnN_str, ↓is_str_int, ↓is_str_bool, ↓is_str_str, ↓is_str_list, ↓is_str_tuple, ↓k_none, ↓n_none, ↓c_isN_none, ↓c_isnN_none, ↓is_none_int, ↓is_none_bool, ↓is_none_str, ↓is_none_list, ↓is_none_tuple, ↓k_list, ↓n_list, ↓c_isN_list, ↓c_isnN_list, ↓is_list_int, ↓is_list_bool, ↓is_list_str, ↓is_list_list, ↓is_list_tuple, ↓k_tuple, ↓n_tuple, ↓c_isN_tuple, ↓c_isnN_tuple, ↓is_tuple_int, ↓is_tuple_bool, ↓is_tuple_str, ↓is_tuple_list, ↓is_tuple_tuple, List.set_cons_zero, List.set_cons_succ, List.map_cons, List.map_nil, List.cons_append, List.nil_append, List.append_nil, List.replicate_succ, List.replicate_zero, List.length_cons, List.length_nil, List.getElem?_cons_zero, List.getElem?_cons_succ, List.getD_cons_zero, List.getD_cons_succ, List.all_cons, List.all_nil, Nat.reduceAdd, Nat.reduceSub, Nat.reduceLeDiff, List.isEmpty_nil, List.isEmpty_cons, Int.reduceToNat, Int.reducePow, Int.reduceAdd, Int.reduceSub, Int.reduceMul, Int.reduceNeg, Int.reduceLT, Int.reduceLE, Bool.true_and, Bool.and_true, Bool.false_and, Bool.and_false, Bool.not_true, Bool.not_false, Bool.true_or, Bool.or_true, Bool.false_or, Bool.or_false, Bool.and_self, decide_true, decide_false, wipeE, restE, exists_eq_left', exists_eq_left, Option.some.injEq, Option.getD_some, nc_0, nc_1, nc_2, nc_3, nc_4, nc_5, nc_6, nc_7, nc_8, Int.natCast_one, Int.natCast_zero, beq_self_eq_true, Int.reduceBEq, Int.reduceBNe, *])
local macro_rules | `(tactic| walk_at "line") => `(tactic| (first | (with_reducible apply decide_eq_true; exact Nat.le_trans (by first | (simp only [List.length_cons, List.length_nil, List.length_append, List.length_map, List.length_range, List.length_zip]; omega) | omega) (by decide : 100000 ≤ sizeLine)) | (with_reducible apply decide_eq_true; exact Nat.lt_of_le_of_lt (by first | (simp only [List.length_cons, List.length_nil, List.length_append, List.length_map, List.length_range, List.length_zip]; omega) | omega) (by decide : 100000 < sizeLine)) | (with_reducible exact IR.line_le (by omega)) | (with_reducible exact IR.line_lt (by omega))))
local macro_rules | `(tactic| walk_at "num") => `(tactic| (first | (simp only [IR.big, IR.wid, IR.small, Bool.and_eq_true, decide_eq_true_eq]; omega) | (simp only [IR.big, IR.wid, IR.small, Bool.and_eq_true, decide_eq_true_eq]; refine ⟨?_, ?_⟩ <;> omega)))
local macro_rules | `(tactic| walk_at "go") => `(tactic| first | walk_at "run" | ((with_reducible refine if_mk ?gu ?_); (case gu => first | walk_at "num" | walk_at "line")))
local macro_rules | `(tactic| walk_at "goc") => `(tactic| first | walk_at "run" | ((with_reducible apply dr_v); (case hT => assumption); (case hc => assumption); (case hm => omega); (case hm2 => omega); (case hk => omega); intro r cs e1 e2 hc) | ((with_reducible apply pk2); (case h0 => assumption); (case h1 => assumption); intro z hz) | ((with_reducible apply pk3); (case h0 => assumption); (case h1 => assumption); intro z hz) | ((with_reducible apply pk4); (case h0 => assumption); (case h1 => assumption); intro z hz) | ((with_reducible apply pk5); (case h0 => assumption); (case h1 => assumption); intro z hz) | ((with_reducible refine if_mk ?gu ?_); (case gu => first | walk_at "num" | walk_at "line")))
theorem box_v {cs : List D} {most wide high : Int} (hD : T "_law_draw" = some v_law_draw) (hT : T "_law_box" = some v_law_box) (hc : Coil j cs) (hm : 1 ≤ most) (hm2 : most ≤ 8) (hw : 0 ≤ wide) (hw2 : wide ≤ 10 ^ 30) (hh : 1 ≤ high) (hh2 : high ≤ 10 ^ 30) (hk : j ≤ 900000) (h : ∀ r ps cs', 2 ≤ r → Plays ps → (∀ p ∈ ps, p ≤ wide) → Coil (j + 30) cs' → Q (.d (vP r ps)) [cs']) : (call T (k + 2) "_law_box" [.io 0 cs, .v (.int most), .v (.int wide), .v (.int high)]).wp Q X := call_wp hT rfl (by decide) (by
  simp only [v_law_box]
  repeat walk_at "goc"
  rename_i r1 c1 a1 a2 hc1 z hz r2 c2 b1 b2 hc2 r3 c3 d1 d2 hc3
  refine for_rng (fun u ρ => ∃ (cs' : List D) (ys : List Int) (o1 o2 : Option D), ρ = [.io 0 cs', .v (.int most), .v (.int wide), .v (.int high), .v (.int (2 + r2)), .ow (vI ys), jk o1, jk o2] ∧ ys.length = u ∧ (∀ y ∈ ys, 0 ≤ y ∧ y ≤ wide) ∧ Coil (j + 3 + 3 * u) cs') ⟨_, [], none, none, rfl, rfl, (by simp), hc3⟩ ?_ ?_
  · rintro u ρ hu ⟨c4, ys, o1, o2, rfl, hl, hy, hc4⟩
    clear hc1 hc2 hc3
    have hv : (vI ys).length = u := by rw [List.length_map]; exact hl
    have hy' := Hd.mk hy
    have hl' := Hd.mk hl
    clear hy hl h
    refine ⟨_, rfl, ?_⟩
    repeat walk_at "goc"
    rename_i r5 c5 a5 a5' hc5 r6 c6 a6 a6' hc6 r7 c7 a7 a7' hc7 z' hz'
    refine ⟨c7, ys ++ [min z' wide], some (.int u), some (.list _), (by simp only [vI, jk, List.map_append, List.map_cons, List.map_nil] <;> rfl), by simp [hl'.h], ?_, hc7.mono (by omega)⟩
    intro y m
    rcases List.mem_append.mp m with m | m
    · exact hy'.h y m
    · rw [List.mem_singleton.mp m]; omega
  · rintro ρ ⟨c4, ys, o1, o2, rfl, hl, hy, hc4⟩
    repeat walk_at "go"
    exact h _ _ _ (by omega) ⟨by omega, by omega, fun p m => (hy p m).1⟩ (fun p m => (hy p m).2) (hc4.mono (by omega)))
theorem row_v {cs : List D} {n size : Int} (hD : T "_law_draw" = some v_law_draw) (hT : T "_law_row" = some v_law_row) (hc : Coil j cs) (hn : 0 ≤ n) (hn2 : n ≤ 60) (hh : 1 ≤ size) (hh2 : size ≤ 10 ^ 30) (hk : j ≤ 900000) (h : ∀ ts cs', Turns ts → (∀ t ∈ ts, t.natAbs ≤ 10 ^ 30 + 3) → Coil (j + 200) cs' → Q (.d (vL ts)) [cs']) : (call T (k + 2) "_law_row" [.io 0 cs, .v (.int n), .v (.int size)]).wp Q X := call_wp hT rfl (by decide) (by
  simp only [v_law_row]
  repeat walk_at "goc"
  refine for_rng (fun u ρ => ∃ (cs' : List D) (ys : List Int) (o1 o2 : Option D), ρ = [.io 0 cs', .v (.int n), .v (.int size), .ow (vI ys), jk o1, jk o2] ∧ ys.length = u ∧ (∀ y ∈ ys, y ≠ 0 ∧ y.natAbs ≤ 10 ^ 30 + 3) ∧ Coil (j + 3 * u) cs') ⟨_, [], none, none, rfl, rfl, (by simp), hc⟩ ?_ ?_
  · rintro u ρ hu ⟨c4, ys, o1, o2, rfl, hl, hy, hc4⟩
    clear hc
    have hv : (vI ys).length = u := by rw [List.length_map]; exact hl
    have hy' := Hd.mk hy
    have hl' := Hd.mk hl
    clear hy hl h
    refine ⟨_, rfl, ?_⟩
    repeat walk_at "goc"
    rename_i r5 c5 a5 a5' hc5 z hz r6 c6 a6 a6' hc6 r7 c7 a7 a7' hc7 z' hz'
    refine ⟨c7, ys ++ [z'], some (.int u), some (.int (1 + r6)), by simp only [vI, jk, List.map_append, List.map_cons, List.map_nil], by simp [hl'.h], ?_, hc7.mono (by omega)⟩
    intro y m
    rcases List.mem_append.mp m with m | m
    · exact hy'.h y m
    · rw [List.mem_singleton.mp m]; omega
  · rintro ρ ⟨c4, ys, o1, o2, rfl, hl, hy, hc4⟩
    repeat walk_at "go"
    exact h _ _ ⟨by omega, fun t m => (hy t m).1⟩ (fun t m => (hy t m).2) (hc4.mono (by omega)))
theorem Stand.snoc : ∀ {ps xs : List Int} {a p x : Int}, Stand a ps xs → 0 ≤ xs.getLastD a - x → xs.getLastD a - x ≤ p → Stand a (ps ++ [p]) (xs ++ [x])
  | [], [], a, p, x, _, h1, h2 => ⟨h1, h2, trivial⟩
  | [], _ :: _, _, _, _, h, _, _ => h.elim
  | _ :: _, [], _, _, _, h, _, _ => h.elim
  | q :: ps, y :: xs, a, p, x, h, h1, h2 => by
    rw [List.getLastD_cons] at h1 h2
    exact ⟨h.1, h.2.1, h.2.2.snoc h1 h2⟩
theorem past_v {cs : List D} {r dial : Int} {ps : List Int} (hD : T "_law_draw" = some v_law_draw) (hT : T "_law_past" = some v_law_past) (hc : Coil j cs) (hp : Plays ps) (hp2 : ∀ p ∈ ps, p ≤ 10 ^ 30) (hk : j ≤ 900000) (h : ∀ xs cs', Stand dial ps xs → Coil (j + 30) cs' → Q (.d (vP dial xs)) [cs']) : (call T (k + 2) "_law_past" [.io 0 cs, .v (vP r ps), .v (.int dial)]).wp Q X := call_wp hT rfl (by decide) (by
  simp only [v_law_past]
  repeat walk_at "goc"
  refine for_map _ (fun us ρ => ∃ (cs' : List D) (ys : List Int) (o1 : Option D), ρ = [.io 0 cs', .v (vP r ps), .v (.int dial), .ow (vI ys), .v (.int (ys.getLastD dial)), jk o1] ∧ Stand dial us ys ∧ Coil (j + 3 * us.length) cs') ⟨_, [], none, rfl, trivial, hc⟩ ?_ ?_
  · rintro us u ws ρ e ⟨c4, ys, o1, rfl, st, hc4⟩
    have len := congrArg List.length e
    have h8 := hp.most
    have q1 := hp.nn u (by rw [e]; simp)
    have q2 := hp2 u (by rw [e]; simp)
    simp only [List.length_append, List.length_cons] at len
    have hv : (vI ys).length = us.length := by rw [List.length_map]; exact st.len
    have st' := Hd.mk st
    clear hc e st h hp2
    refine ⟨_, rfl, ?_⟩
    repeat walk_at "goc"
    rename_i r5 c5 a5 a5' hc5 r6 c6 a6 a6' hc6 r7 c7 a7 a7' hc7 z' hz'
    refine ⟨c7, ys ++ [ys.getLastD dial - z'], some (.int u), by simp only [getLastD_snoc, vI, jk, List.map_append, List.map_cons, List.map_nil], st'.h.snoc (by omega) (by omega), hc7.mono (by simp only [List.length_append, List.length_singleton]; omega)⟩
  · rintro ρ ⟨c4, ys, o1, rfl, st, hc4⟩
    repeat walk_at "go"
    exact h _ _ st (hc4.mono (by have := hp.most; omega)))
end
end VM

set_option Elab.async false
set_option linter.all false
set_option maxRecDepth 100000
set_option maxHeartbeats 4000000
set_option exponentiation.threshold 30000
namespace VM
open PySem PySem.Spec PyProof.Rows L2 Dl
open IR (Hid Br br_mk br_t br_f OnO onO_some If if_t if_mk)
local macro_rules | `(tactic| walk_at "run") => `(tactic| simp (disch := omega) only [↓s_nil, ↓s_tnx, ↓s_trt, ↓s_tro, ↓s_tbk, ↓s_tct, ↓s_txx, ↓s_cons, ↓s_frz, ↓s_set, ↓s_seto, ↓s_par, ↓s_tset, ↓s_setix, ↓s_ife, ↓s_for, ↓s_ret, ↓s_rets, ↓s_reto, ↓s_retN, ↓s_expr, ↓s_pass, ↓s_brk, ↓s_cont, ↓w_int, ↓w_bl, ↓w_non, ↓w_str, ↓w_loc, ↓w_bin, ↓w_cmp, ↓w_chain, ↓w_and, ↓w_or, ↓w_not, ↓w_neg, ↓w_ite, ↓w_tup, ↓w_fr, ↓w_callV, ↓w_call, ↓w_callk, ↓w_ix, ↓w_bi, ↓w_isi, ↓w_app, ↓o_lst, ↓o_rep, ↓o_slice, ↓o_lof, ↓o_lzip, ↓o_lc, ↓o_call, ↓o_callk, ↓vs_nil, ↓vs_cons, ↓ds_nil, ↓ds_cons, ↓ep_none, ↓ep_some, ↓sl_nil, ↓sl_t, ↓sl_f, ↓t_and, ↓t_or, ↓t_not, ↓t_tru, ↓tl_nil, ↓tl_one, ↓i_over, ↓i_rng1, ↓i_rng2, ↓i_rng3, ↓i_zip, ↓i_enum, ↓wp_ok, ↓wp_dR, ↓w_d1, ↓wp_bind, ↓wp_next, ↓wp_ret, ↓wp_reto, ↓wp_brk, ↓wp_cont, ↓wpc_ok, ↓wpc_err, ↓onD_d, ↓onI_int, ↓onB_bl, ↓onR_ref, ↓onW_ow, ↓at_z, ↓at_s, ↓slV_v, ↓slV_ow, ↓slV_io, ↓slO_ow, ↓br_t, ↓br_f, ↓if_t, ↓onO_some, ↓plain_jk, ↓plain_v, ↓plain_un, ↓se_eq, ↓as_nm, ↓as_tl, ↓as_tt, ↓as_nil, ↓as_cons, ↓sa_nil, ↓sa_cons, ↓frS_ow, ↓frS_v, ↓frS_un, ↓frS_jk, ↓atF_z, ↓atF_s, ↓fz_nil, ↓fz_cons, ↓slX_ow, ↓slX_io, ↓v_d, ↓v_r, ↓vl_nil, ↓vl_d, ↓vl_r, ↓ix_set, ↓ap_eq, ↓ta_nil, ↓ta_d, ↓ta_r, ↓pu_nil, ↓pu_d, ↓pu_r, ↓rc_ow, ↓rc_io, ↓rt_d, ↓rt_o, ↓tr_b, ↓tr_n, ↓tr_l, ↓tr_t, ↓tr_i, ↓sq_l, ↓sq_t, ↓ls_l, ↓b_add, ↓b_sub, ↓b_mul, ↓b_fdiv, ↓b_mod, ↓b_pow, ↓b_cat, ↓c_lt, ↓c_le, ↓c_gt, ↓c_ge, ↓c_eqI, ↓c_neI, ↓c_eqB, ↓c_neB, ↓c_eqS, ↓c_neS, ↓c_eqL, ↓c_neL, ↓i_l, ↓i_t, ↓f_lenL, ↓f_lenT, ↓f_abs, ↓f_max, ↓f_min, ↓f_int, ↓f_intB, ↓f_tupL, ↓f_tupT, ↓f_sum, ↓f_all, ↓f_any, ↓f_maxL, ↓f_minL, ↓f_reprL, ↓f_reprT, ↓f_reprI, ↓asInts_map, ↓asBools_map, ↓decide_self, ↓IR.atI_0, ↓IR.atI_1, ↓IR.atI_2, ↓IR.atI_3, ↓IR.atI_end, ↓IR.ixN_0, ↓IR.ixN_1, ↓IR.ixN_2, ↓k_int, ↓n_int, ↓c_isN_int, ↓c_isnN_int, ↓is_int_int, ↓is_int_bool, ↓is_int_str, ↓is_int_list, ↓is_int_tuple, ↓k_bool, ↓n_bool, ↓c_isN_bool, ↓c_isnN_bool, ↓is_bool_int, ↓is_bool_bool, ↓is_bool_str, ↓is_bool_list, ↓is_bool_tuple, ↓k_str, ↓n_str, ↓c_isN_str, ↓c_isnN_str, ↓is_str_int, ↓is_str_bool, ↓is_str_str, ↓is_str_list, ↓is_str_tuple, ↓k_none, ↓n_none, ↓c_isN_none, ↓c_isnN_none, ↓is_none_int, ↓is_none_bool, ↓is_none_str, ↓is_none_list, ↓is_none_tuple, ↓k_list, ↓n_list, ↓c_isN_list, ↓c_isnN_list, ↓is_list_int, ↓is_list_bool, ↓is_list_str, ↓is_list_list, ↓is_list_tuple, ↓k_tuple, ↓n_tuple, ↓c_isN_tuple, ↓c_isnN_tuple, ↓is_tuple_int, ↓is_tuple_bool, ↓is_tuple_str, ↓is_tuple_list, ↓is_tuple_tuple, List.set_cons_zero, List.set_cons_succ, List.map_cons, List.map_nil, List.cons_append, List.nil_append, List.append_nil, List.replicate_succ, List.replicate_zero, List.length_cons, List.length_nil, List.getElem?_cons_zero, List.getElem?_cons_succ, List.getD_cons_zero, List.getD_cons_succ, List.all_cons, List.all_nil, Nat.reduceAdd, Nat.reduceSub, Nat.reduceLeDiff, List.isEmpty_nil, List.isEmpty_cons, Int.reduceToNat, Int.reducePow, Int.reduceAdd, Int.reduceSub, Int.reduceMul, Int.reduceNeg, Int.reduceLT, Int.reduceLE, Bool.true_and, Bool.and_true, Bool.false_and, Bool.and_false, Bool.not_true, Bool.not_false, Bool.true_or, Bool.or_true, Bool.false_or, Bool.or_false, Bool.and_self, decide_true, decide_false, wipeE, restE, exists_eq_left', exists_eq_left, Option.some.injEq, Option.getD_some, nc_0, nc_1, nc_2, nc_3, nc_4, nc_5, nc_6, nc_7, nc_8, Int.natCast_one, Int.natCast_zero, beq_self_eq_true, Int.reduceBEq, Int.reduceBNe, *])
local macro_rules | `(tactic| walk_at "line") => `(tactic| (first | (with_reducible apply decide_eq_true; exact Nat.le_trans (by first | (simp only [List.length_cons, List.length_nil, List.length_append, List.length_map, List.length_range, List.length_zip]; omega) | omega) (by decide : 100000 ≤ sizeLine)) | (with_reducible apply decide_eq_true; exact Nat.lt_of_le_of_lt (by first | (simp only [List.length_cons, List.length_nil, List.length_append, List.length_map, List.length_range, List.length_zip]; omega) | omega) (by decide : 100000 < sizeLine)) | (with_reducible exact IR.line_le (by omega)) | (with_reducible exact IR.line_lt (by omega))))
local macro_rules | `(tactic| walk_at "num") => `(tactic| (first | (simp only [IR.big, IR.wid, IR.small, Bool.and_eq_true, decide_eq_true_eq]; omega) | (simp only [IR.big, IR.wid, IR.small, Bool.and_eq_true, decide_eq_true_eq]; refine ⟨?_, ?_⟩ <;> omega)))
local macro_rules | `(tactic| walk_at "go") => `(tactic| first | walk_at "run" | ((with_reducible refine if_mk ?gu ?_); (case gu => first | walk_at "num" | walk_at "line")))
local macro_rules | `(tactic| walk_at "goc") => `(tactic| first | walk_at "run" | ((with_reducible apply dr_v); (case hT => assumption); (case hc => assumption); (case hm => omega); (case hm2 => omega); (case hk => omega); intro r cs e1 e2 hc) | ((with_reducible apply pk2); (case h0 => assumption); (case h1 => assumption); intro z hz) | ((with_reducible apply pk3); (case h0 => assumption); (case h1 => assumption); intro z hz) | ((with_reducible apply pk4); (case h0 => assumption); (case h1 => assumption); intro z hz) | ((with_reducible apply pk5); (case h0 => assumption); (case h1 => assumption); intro z hz) | ((with_reducible refine if_mk ?gu ?_); (case gu => first | walk_at "num" | walk_at "line")))
section
variable {T : Str → Option Fn} {k j : Nat} {Q : Ret → List (List D) → Prop} {X : Exn → List (List D) → Prop}
theorem v_lawBehind {r : Int} {ps : List Int} {s : St} {ts : List Int} (hT : T "_law_behind" = some v_law_behind) (h8 : ps.length ≤ 8) (hs : s.2.length = ps.length) : call T (k + 1) "_law_behind" [.v (vP r ps), .v (vS s), .v (vL ts)] = .ok (.d (vS (runS ps s ts))) [] := call_mk hT rfl (by decide) (by
  obtain ⟨d0, xs0⟩ := s
  simp only [v_law_behind, vS]
  repeat walk_at "go"
  refine for_map _ (fun us ρ => ∃ (o1 o2 o3 o4 o5 : Option D), ρ = [.v (vP r ps), .v (vP d0 xs0), .v (vL ts), .v (.int (runS ps (d0, xs0) us).1), .v (vL (runS ps (d0, xs0) us).2), jk o1, jk o2, jk o3, jk o4, jk o5]) ⟨none, none, none, none, none, rfl⟩ ?_ ?_
  · rintro us t ws ρ e ⟨o1, o2, o3, o4, o5, rfl⟩
    have e5 : Hd (runS ps (d0, xs0) (us ++ [t]) = stepS ps (runS ps (d0, xs0) us) t) := ⟨runS_snoc⟩
    have hrl : (runS ps (d0, xs0) us).2.length = ps.length := runS_len hs
    clear e
    generalize runS ps (d0, xs0) us = R at *
    obtain ⟨d, xs⟩ := R
    simp only [stepS] at e5
    have hl : ps.length = xs.length := hrl.symm
    clear hrl
    refine ⟨_, rfl, ?_⟩
    repeat walk_at "go"
    rw [zipD_map]
    refine for_map _ (fun us ρ => ∃ (o1 o2 : Option D), ρ = [.v (vP r ps), .v (vP d0 xs0), .v (vL ts), .v (.int (d + t)), .v (vL xs), .v (.int t), .v (.int ((turnL t (d + t) (ps.take us.length) (xs.take us.length)).getLastD (d + t))), .ow (vI (turnL t (d + t) (ps.take us.length) (xs.take us.length))), jk o1, jk o2]) ⟨o4, o5, rfl⟩ ?_ ?_
    · rintro us ⟨p, y⟩ ws ρ e ⟨o1, o2, rfl⟩
      obtain ⟨h1, h2, h3⟩ := zip_split e
      have hlen : us.length < ps.length := by have := congrArg List.length e; rw [List.length_zip] at this; simp at this; omega
      have hs := turnL_snoc (t := t) (ps.take us.length) (xs.take us.length) (d + t) p y (by simp [hl])
      have ht := turnL_len (t := t) (ps.take us.length) (xs.take us.length) (d + t) (by simp [hl])
      have e5 : Hd (turnL t (d + t) (ps.take (us ++ [(p, y)]).length) (xs.take (us ++ [(p, y)]).length) = turnL t (d + t) (ps.take us.length) (xs.take us.length) ++ [if 0 < t then max y ((turnL t (d + t) (ps.take us.length) (xs.take us.length)).getLastD (d + t) - p) else min y ((turnL t (d + t) (ps.take us.length) (xs.take us.length)).getLastD (d + t))]) := ⟨by rw [List.length_append, List.length_singleton, h2, h3]; exact hs⟩
      clear e h1 h2 h3 hs
      have hv : (vI (turnL t (d + t) (ps.take us.length) (xs.take us.length))).length ≤ 8 := by rw [List.length_map, ht, List.length_take]; omega
      generalize turnL t (d + t) (ps.take us.length) (xs.take us.length) = V at *
      refine ⟨_, rfl, ?_⟩
      by_cases c : 0 < t
      · have d1 := decide_eq_true c
        have e6 := e5.h
        rw [if_pos c] at e6
        have e6 := Hd.mk e6
        clear e5 ht
        repeat walk_at "go"
        exact ⟨some (.int p), some (.int y), by simp only [e6.h, getLastD_snoc, vI, jk, List.map_append, List.map_cons, List.map_nil]⟩
      · have d1 := decide_eq_false c
        have e6 := e5.h
        rw [if_neg c] at e6
        have e6 := Hd.mk e6
        clear e5 ht
        repeat walk_at "go"
        exact ⟨some (.int p), some (.int y), by simp only [e6.h, getLastD_snoc, vI, jk, List.map_append, List.map_cons, List.map_nil]⟩
    · rintro ρ ⟨o1, o2, rfl⟩
      have e1 : ps.take (ps.zip xs).length = ps := List.take_of_length_le (by rw [List.length_zip]; omega)
      have e2 : xs.take (ps.zip xs).length = xs := List.take_of_length_le (by rw [List.length_zip]; omega)
      rw [e1, e2]
      have e6 := e5
      clear e5 e1 e2
      repeat walk_at "go"
      exact ⟨some (.int t), some _, some _, o1, o2, by simp only [e6.h, jk] <;> rfl⟩
  · rintro ρ ⟨o1, o2, o3, o4, o5, rfl⟩
    repeat walk_at "go"
    exact ⟨trivial, rfl⟩)
theorem v_lawEnds {r : Int} {ps : List Int} (hT : T "_law_ends" = some v_law_ends) (h8 : ps.length ≤ 8) : call T (k + 1) "_law_ends" [.v (vP r ps)] = .ok (.d (.list [vP 0 (upL 0 ps), vP 0 (List.replicate ps.length 0)])) [] := call_mk hT rfl (by decide) (by
  simp only [v_law_ends]
  repeat walk_at "go"
  refine for_map _ (fun us ρ => ∃ (o1 : Option D), ρ = [.v (vP r ps), .ow (vI (upL 0 us)), .v (.int ((upL 0 us).getLastD 0)), jk o1]) ⟨none, rfl⟩ ?_ ?_
  · rintro us u ws ρ e ⟨o1, rfl⟩
    have len := congrArg List.length e
    simp only [List.length_append, List.length_cons] at len
    have hv : (vI (upL 0 us)).length = us.length := by rw [List.length_map, upL_len]
    have e5 := Hd.mk (upL_snoc us 0 u)
    clear e
    generalize upL 0 us = V at *
    refine ⟨_, rfl, ?_⟩
    repeat walk_at "go"
    exact ⟨some (.int u), by simp only [e5.h, getLastD_snoc, vI, jk, List.map_append, List.map_cons, List.map_nil]⟩
  · rintro ρ ⟨o1, rfl⟩
    have rp : repL [.int 0] ((((vI ps).length : Nat) : Int)).toNat = vI (List.replicate ps.length 0) := by rw [Int.toNat_natCast, List.length_map]; exact repL_int
    have g : (IR.small (((vI ps).length : Nat) : Int) && decide (1 * (((vI ps).length : Nat) : Int).toNat ≤ sizeLine)) = true := by
      rw [List.length_map, Int.toNat_natCast]
      simp only [IR.small, Bool.and_eq_true, decide_eq_true_eq]
      exact ⟨⟨by omega, by omega⟩, Nat.le_trans (by omega) (by decide : 100 ≤ sizeLine)⟩
    repeat walk_at "go"
    exact ⟨trivial, rfl⟩)
abbrev vZ (xs ys : List Int) : D := .list ((xs.zip ys).map fun p => .tuple [.int p.1, .int p.2])
structure TEf (T : Str → Option Fn) : Prop extends TTd T where
  dial : T "check_dial" = some v_check_dial
  up : T "pushed_up" = some v_pushed_up
  back : T "pushed_back" = some v_pushed_back
  eff : T "effect_of" = some v_effect_of
theorem v_effectOf {r : Int} {ps ts : List Int} (t : TEf T) (hr : 2 ≤ r) (hp : Plays ps) (ht : Turns ts) : call T (k + 7) "effect_of" [.v (vP r ps), .v (vL ts)] = .ok (.d (.tuple [.int ts.sum, vZ (runS ps (0, upL 0 ps) ts).2 (runS ps (0, List.replicate ps.length 0) ts).2])) [] := call_mk t.eff rfl (by decide) (by
  have k1 := t.toTLk.checkLock (k := k + 2) hr hp
  have k2 := v_checkTurns (k := k + 3) t.int t.turn t.turns ht
  have k3 := v_pushedUp (k := k + 1) (d := 0) t.toTLk t.dial t.up hr hp
  have k4 := v_pushedBack (k := k + 1) (d := 0) t.toTLk t.dial t.back hr hp
  have k5 := v_turnedState (k := k) (s := (0, upL 0 ps)) t.toTTd hr hp (upL_stand _ _ hp.nn) ht
  have k6 := v_turnedState (k := k) (s := (0, List.replicate ps.length 0)) t.toTTd hr hp (back_stand _ _ hp.nn) ht
  have l1 : (runS ps (0, upL 0 ps) ts).2.length ≤ 8 := by rw [runS_len (upL_len _ _)]; exact hp.most
  have s1 : (runS ps (0, upL 0 ps) ts).1 = ts.sum := by rw [runS_dial]; simp
  simp only [v_effect_of, vS, s1] at k5 k6 ⊢
  generalize upL 0 ps = U at *
  generalize (List.replicate ps.length 0 : List Int) = B at *
  generalize runS ps (0, U) ts = R at *
  generalize runS ps (0, B) ts = S at *
  repeat walk_at "go"
  rw [zipD_map]
  repeat walk_at "go"
  exact ⟨trivial, rfl⟩)
end
end VM

set_option Elab.async false
set_option linter.all false
set_option maxRecDepth 100000
set_option maxHeartbeats 4000000
set_option exponentiation.threshold 30000
namespace VM
open PySem PySem.Spec PyProof.Rows L2 Dl
open IR (Hid Br br_mk br_t br_f OnO onO_some If if_t if_mk)
/-! ## a wheel by itself -/
def stW (t k P x : Int) : Int := if 0 < t then max x (k - P) else min x k
def accL (t k : Int) : Int → List Int → List Int → List Int
  | P, p :: ps, x :: xs => stW t k (P + p) x :: accL t k (P + p) ps xs
  | _, _, _ => []
theorem turn_acc {t k : Int} : ∀ {ps xs : List Int} {a P : Int}, Stand a ps xs → turnL t (stW t k P a) ps xs = accL t k P ps xs
  | [], [], a, P, _ => rfl
  | [], _ :: _, _, _, h => h.elim
  | _ :: _, [], _, _, h => h.elim
  | p :: ps, x :: xs, a, P, ⟨h1, h2, h3⟩ => by
    have e : (if 0 < t then max x (stW t k P a - p) else min x (stW t k P a)) = stW t k (P + p) x := by
      simp only [stW]; split <;> omega
    rw [turnL, e, accL, turn_acc h3]
theorem stand_acc {t k : Int} : ∀ {ps xs : List Int} {a P : Int}, Stand a ps xs → Stand (stW t k P a) ps (accL t k P ps xs)
  | [], [], a, P, _ => trivial
  | [], _ :: _, _, _, h => h.elim
  | _ :: _, [], _, _, h => h.elim
  | p :: ps, x :: xs, a, P, ⟨h1, h2, h3⟩ => ⟨by simp only [stW]; split <;> omega, by simp only [stW]; split <;> omega, stand_acc h3⟩
theorem stW_0 {t d : Int} : stW t (d + t) 0 d = d + t := by simp only [stW]; split <;> omega
def wr (P : Int) : Int → Int → List Int → Int
  | _, x, [] => x
  | k, x, t :: ts => wr P (k + t) (stW t (k + t) P x) ts
def whL (d : Int) (ts : List Int) : Int → List Int → List Int → List Int
  | P, p :: ps, x :: xs => wr (P + p) d x ts :: whL d ts (P + p) ps xs
  | _, _, _ => []
theorem whL_nil {d : Int} : ∀ {ps xs : List Int} {a P : Int}, Stand a ps xs → whL d [] P ps xs = xs
  | [], [], a, P, _ => rfl
  | [], _ :: _, _, _, h => h.elim
  | _ :: _, [], _, _, h => h.elim
  | p :: ps, x :: xs, a, P, h => by rw [whL, whL_nil h.2.2]; rfl
theorem whL_acc {d t : Int} {ts : List Int} : ∀ {ps xs : List Int} {P : Int}, whL (d + t) ts P ps (accL t (d + t) P ps xs) = whL d (t :: ts) P ps xs
  | [], _, P => by simp [whL, accL]
  | _ :: _, [], P => by simp [whL, accL]
  | p :: ps, x :: xs, P => by rw [accL, whL, whL_acc, whL]; rfl
theorem run_wh {ps : List Int} : ∀ {ts xs : List Int} {d : Int}, Stand d ps xs → (runS ps (d, xs) ts).2 = whL d ts 0 ps xs ∧ Stand (d + ts.sum) ps (runS ps (d, xs) ts).2
  | [], xs, d, h => ⟨(whL_nil h).symm, by simpa [runS] using h⟩
  | t :: ts, xs, d, h => by
    have e : runS ps (d, xs) (t :: ts) = runS ps (d + t, accL t (d + t) 0 ps xs) ts := by
      rw [← turn_acc h, stW_0]; rfl
    have s : Stand (d + t) ps (accL t (d + t) 0 ps xs) := by
      have := stand_acc (t := t) (k := d + t) (P := 0) h
      rwa [stW_0] at this
    obtain ⟨g1, g2⟩ := run_wh (ts := ts) s
    rw [e]
    refine ⟨by rw [g1, whL_acc], ?_⟩
    rw [List.sum_cons, ← Int.add_assoc]; exact g2
theorem wr_clamp {P : Int} : ∀ {ts : List Int} {d k x l m : Int}, l ≤ m → wr P (d + k) (d + min (max x l) m) ts = d + min (max x (wr P k l ts)) (wr P k m ts)
  | [], d, k, x, l, m, _ => rfl
  | t :: ts, d, k, x, l, m, h => by
    have e : stW t (d + (k + t)) P (d + min (max x l) m) = d + min (max x (stW t (k + t) P l)) (stW t (k + t) P m) := by
      simp only [stW]; split <;> omega
    have q : stW t (k + t) P l ≤ stW t (k + t) P m := by simp only [stW]; split <;> omega
    rw [wr, Int.add_assoc, e, wr_clamp q]; rfl
theorem wh_clamp {ts : List Int} {d : Int} : ∀ {ps xs : List Int} {a b P : Int}, Stand a ps xs → 0 ≤ d - a → d - a ≤ P → b = -P → whL d ts P ps xs = (xs.zip ((whL 0 ts P ps (upL b ps)).zip (whL 0 ts P ps (List.replicate ps.length 0)))).map fun q => d + min (max (q.1 - d) q.2.1) q.2.2
  | [], [], _, _, _, _, _, _, _ => rfl
  | [], _ :: _, _, _, _, h, _, _, _ => h.elim
  | _ :: _, [], _, _, _, h, _, _, _ => h.elim
  | p :: ps, x :: xs, a, b, P, ⟨h1, h2, h3⟩, g1, g2, e0 => by
    subst e0
    have e := wr_clamp (P := P + p) (ts := ts) (d := d) (k := 0) (x := x - d) (l := -P - p) (m := 0) (by omega)
    rw [Int.add_zero, show d + min (max (x - d) (-P - p)) 0 = x by omega] at e
    rw [upL, List.length_cons, List.replicate_succ]
    simp only [whL, List.zip_cons_cons, List.map_cons]
    rw [e, wh_clamp (a := x) (b := -P - p) (P := P + p) h3 (by omega) (by omega) (by omega)]
theorem run_clamp {ps xs ts : List Int} {d : Int} (hn : ∀ p ∈ ps, 0 ≤ p) (h : Stand d ps xs) : (runS ps (d, xs) ts).2 = (xs.zip ((runS ps (0, upL 0 ps) ts).2.zip (runS ps (0, List.replicate ps.length 0) ts).2)).map fun q => d + min (max (q.1 - d) q.2.1) q.2.2 := by
  rw [(run_wh h).1, (run_wh (upL_stand ps 0 hn)).1, (run_wh (back_stand ps 0 hn)).1]
  exact wh_clamp (b := 0) h (by omega) (by omega) (by omega)
theorem stand_bound {W : Int} : ∀ {ps xs : List Int} {a : Int}, Stand a ps xs → (∀ p ∈ ps, p ≤ 10 ^ 30) → ∀ x ∈ xs, x ≤ a ∧ a - (ps.length : Int) * 10 ^ 30 ≤ x
  | [], [], _, _, _, x, hx => by cases hx
  | [], _ :: _, _, h, _, _, _ => h.elim
  | _ :: _, [], _, h, _, _, _ => h.elim
  | p :: ps, y :: xs, a, ⟨h1, h2, h3⟩, hp, x, hx => by
    have q := hp p (by simp)
    rw [List.length_cons]
    rcases List.mem_cons.mp hx with rfl | hx
    · omega
    · have := stand_bound (W := W) h3 (fun p m => hp p (by simp [m])) x hx
      omega
theorem sum_bound : ∀ {ts : List Int}, (∀ t ∈ ts, t.natAbs ≤ 10 ^ 30 + 3) → ts.sum.natAbs ≤ ts.length * (10 ^ 30 + 3)
  | [], _ => by simp
  | t :: ts, h => by
    have q := h t (by simp)
    have := sum_bound (ts := ts) fun t m => h t (by simp [m])
    rw [List.sum_cons, List.length_cons]
    omega
theorem shZ : ∀ {xs : List (Int × Int)}, (∀ p ∈ xs, p.1.natAbs < 10 ^ 50 ∧ p.2.natAbs < 10 ^ 50) → ShAll (3 * xs.length) 1 (xs.map fun p => PyData.tuple [.int p.1, .int p.2])
  | [], _ => ⟨rfl, rfl, Nat.zero_le _, rfl, Nat.le_refl _⟩
  | p :: xs, h => by
    have q := h p (by simp)
    have t := ShAll.cons (Sh.tuple (ShAll.cons (Sh.int q.1) (ShAll.cons (Sh.int q.2) ShAll.nil0))) (shZ (xs := xs) fun p m => h p (by simp [m]))
    rw [List.length_cons, show 3 * (xs.length + 1) = 0 + 1 + (0 + 1 + 0) + 1 + 3 * xs.length by omega]
    exact t
/-- what is shown -/
theorem zip_repr {ps ts : List Int} (hp : Plays ps) (hp2 : ∀ p ∈ ps, p ≤ 10 ^ 30) (ht : Turns ts) (ht2 : ∀ t ∈ ts, t.natAbs ≤ 10 ^ 30 + 3) : IR.reprOk (.tuple [.int ts.sum, vZ (runS ps (0, upL 0 ps) ts).2 (runS ps (0, List.replicate ps.length 0) ts).2]) = true := by
  have s1 := (run_wh (ts := ts) (upL_stand ps 0 hp.nn)).2
  have s2 := (run_wh (ts := ts) (back_stand ps 0 hp.nn)).2
  have b0 := sum_bound ht2
  have b1 := stand_bound (W := 0) s1 hp2
  have b2 := stand_bound (W := 0) s2 hp2
  have l1 := s1.len
  have h8 := hp.most
  have h60 := ht.1
  have bs : ts.sum.natAbs < 10 ^ 50 := by omega
  have z := shZ (xs := (runS ps (0, upL 0 ps) ts).2.zip (runS ps (0, List.replicate ps.length 0) ts).2) fun p m => by
    have c1 := b1 p.1 (List.of_mem_zip m).1
    have c2 := b2 p.2 (List.of_mem_zip m).2
    constructor <;> omega
  refine sh_ok (Sh.tuple (ShAll.cons2 (Sh.int bs) (ShAll.cons2 (Sh.list z) ShAll.nil0))) ?_ (by omega)
  rw [List.length_zip]; omega
end VM

set_option Elab.async false
set_option linter.all false
set_option maxRecDepth 100000
set_option maxHeartbeats 4000000
set_option exponentiation.threshold 30000
namespace VM
open PySem PySem.Spec PyProof.Rows L2 Dl
open IR (Hid Br br_mk br_t br_f OnO onO_some If if_t if_mk)
local macro_rules | `(tactic| walk_at "run") => `(tactic| simp (disch := omega) only [↓s_nil, ↓s_tnx, ↓s_trt, ↓s_tro, ↓s_tbk, ↓s_tct, ↓s_txx, ↓s_cons, ↓s_frz, ↓s_set, ↓s_seto, ↓s_par, ↓s_tset, ↓s_setix, ↓s_ife, ↓s_for, ↓s_ret, ↓s_rets, ↓s_reto, ↓s_retN, ↓s_expr, ↓s_pass, ↓s_brk, ↓s_cont, ↓w_int, ↓w_bl, ↓w_non, ↓w_str, ↓w_loc, ↓w_bin, ↓w_cmp, ↓w_chain, ↓w_and, ↓w_or, ↓w_not, ↓w_neg, ↓w_ite, ↓w_tup, ↓w_fr, ↓w_callV, ↓w_call, ↓w_callk, ↓w_ix, ↓w_bi, ↓w_isi, ↓w_app, ↓o_lst, ↓o_rep, ↓o_slice, ↓o_lof, ↓o_lzip, ↓o_lc, ↓o_call, ↓o_callk, ↓vs_nil, ↓vs_cons, ↓ds_nil, ↓ds_cons, ↓ep_none, ↓ep_some, ↓sl_nil, ↓sl_t, ↓sl_f, ↓t_and, ↓t_or, ↓t_not, ↓t_tru, ↓tl_nil, ↓tl_one, ↓i_over, ↓i_rng1, ↓i_rng2, ↓i_rng3, ↓i_zip, ↓i_enum, ↓wp_ok, ↓wp_dR, ↓w_d1, ↓wp_bind, ↓wp_next, ↓wp_ret, ↓wp_reto, ↓wp_brk, ↓wp_cont, ↓wpc_ok, ↓wpc_err, ↓onD_d, ↓onI_int, ↓onB_bl, ↓onR_ref, ↓onW_ow, ↓at_z, ↓at_s, ↓slV_v, ↓slV_ow, ↓slV_io, ↓slO_ow, ↓br_t, ↓br_f, ↓if_t, ↓onO_some, ↓plain_jk, ↓plain_v, ↓plain_un, ↓se_eq, ↓as_nm, ↓as_tl, ↓as_tt, ↓as_nil, ↓as_cons, ↓sa_nil, ↓sa_cons, ↓frS_ow, ↓frS_v, ↓frS_un, ↓frS_jk, ↓atF_z, ↓atF_s, ↓fz_nil, ↓fz_cons, ↓slX_ow, ↓slX_io, ↓v_d, ↓v_r, ↓vl_nil, ↓vl_d, ↓vl_r, ↓ix_set, ↓ap_eq, ↓ta_nil, ↓ta_d, ↓ta_r, ↓pu_nil, ↓pu_d, ↓pu_r, ↓rc_ow, ↓rc_io, ↓rt_d, ↓rt_o, ↓tr_b, ↓tr_n, ↓tr_l, ↓tr_t, ↓tr_i, ↓sq_l, ↓sq_t, ↓ls_l, ↓b_add, ↓b_sub, ↓b_mul, ↓b_fdiv, ↓b_mod, ↓b_pow, ↓b_cat, ↓c_lt, ↓c_le, ↓c_gt, ↓c_ge, ↓c_eqI, ↓c_neI, ↓c_eqB, ↓c_neB, ↓c_eqS, ↓c_neS, ↓c_eqL, ↓c_neL, ↓i_l, ↓i_t, ↓f_lenL, ↓f_lenT, ↓f_abs, ↓f_max, ↓f_min, ↓f_int, ↓f_intB, ↓f_tupL, ↓f_tupT, ↓f_sum, ↓f_all, ↓f_any, ↓f_maxL, ↓f_minL, ↓f_reprL, ↓f_reprT, ↓f_reprI, ↓asInts_map, ↓asBools_map, ↓decide_self, ↓IR.atI_0, ↓IR.atI_1, ↓IR.atI_2, ↓IR.atI_3, ↓IR.atI_end, ↓IR.ixN_0, ↓IR.ixN_1, ↓IR.ixN_2, ↓k_int, ↓n_int, ↓c_isN_int, ↓c_isnN_int, ↓is_int_int, ↓is_int_bool, ↓is_int_str, ↓is_int_list, ↓is_int_tuple, ↓k_bool, ↓n_bool, ↓c_isN_bool, ↓c_isnN_bool, ↓is_bool_int, ↓is_bool_bool, ↓is_bool_str, ↓is_bool_list, ↓is_bool_tuple, ↓k_str, ↓n_str, ↓c_isN_str, ↓c_isnN_str, ↓is_str_int, ↓is_str_bool, ↓is_str_str, ↓is_str_list, ↓is_str_tuple, ↓k_none, ↓n_none, ↓c_isN_none, ↓c_isnN_none, ↓is_none_int, ↓is_none_bool, ↓is_none_str, ↓is_none_list, ↓is_none_tuple, ↓k_list, ↓n_list, ↓c_isN_list, ↓c_isnN_list, ↓is_list_int, ↓is_list_bool, ↓is_list_str, ↓is_list_list, ↓is_list_tuple, ↓k_tuple, ↓n_tuple, ↓c_isN_tuple, ↓c_isnN_tuple, ↓is_tuple_int, ↓is_tuple_bool, ↓is_tuple_str, ↓is_tuple_list, ↓is_tuple_tuple, List.set_cons_zero, List.set_cons_succ, List.map_cons, List.map_nil, List.cons_append, List.nil_append, List.append_nil, List.replicate_succ, List.replicate_zero, List.length_cons, List.length_nil, List.getElem?_cons_zero, List.getElem?_cons_succ, List.getD_cons_zero, List.getD_cons_succ, List.all_cons, List.all_nil, Nat.reduceAdd, Nat.reduceSub, Nat.reduceLeDiff, List.isEmpty_nil, List.isEmpty_cons, Int.reduceToNat, Int.reducePow, Int.reduceAdd, Int.reduceSub, Int.reduceMul, Int.reduceNeg, Int.reduceLT, Int.reduceLE, Bool.true_and, Bool.and_true, Bool.false_and, Bool.and_false, Bool.not_true, Bool.not_false, Bool.true_or, Bool.or_true, Bool.false_or, Bool.or_false, Bool.and_self, decide_true, decide_false, wipeE, restE, exists_eq_left', exists_eq_left, Option.some.injEq, Option.getD_some, nc_0, nc_1, nc_2, nc_3, nc_4, nc_5, nc_6, nc_7, nc_8, Int.natCast_one, Int.natCast_zero, beq_self_eq_true, Int.reduceBEq, Int.reduceBNe, *])
local macro_rules | `(tactic| walk_at "line") => `(tactic| (first | (with_reducible apply decide_eq_true; exact Nat.le_trans (by first | (simp only [List.length_cons, List.length_nil, List.length_append, List.length_map, List.length_range, List.length_zip]; omega) | omega) (by decide : 100000 ≤ sizeLine)) | (with_reducible apply decide_eq_true; exact Nat.lt_of_le_of_lt (by first | (simp only [List.length_cons, List.length_nil, List.length_append, List.length_map, List.length_range, List.length_zip]; omega) | omega) (by decide : 100000 < sizeLine)) | (with_reducible exact IR.line_le (by omega)) | (with_reducible exact IR.line_lt (by omega))))
local macro_rules | `(tactic| walk_at "num") => `(tactic| (first | (simp only [IR.big, IR.wid, IR.small, Bool.and_eq_true, decide_eq_true_eq]; omega) | (simp only [IR.big, IR.wid, IR.small, Bool.and_eq_true, decide_eq_true_eq]; refine ⟨?_, ?_⟩ <;> omega)))
local macro_rules | `(tactic| walk_at "go") => `(tactic| first | walk_at "run" | ((with_reducible refine if_mk ?gu ?_); (case gu => first | walk_at "num" | walk_at "line")))
local macro_rules | `(tactic| walk_at "goc") => `(tactic| first | walk_at "run" | ((with_reducible apply dr_v); (case hT => assumption); (case hc => assumption); (case hm => omega); (case hm2 => omega); (case hk => omega); intro r cs e1 e2 hc) | ((with_reducible apply pk2); (case h0 => assumption); (case h1 => assumption); intro z hz) | ((with_reducible apply pk3); (case h0 => assumption); (case h1 => assumption); intro z hz) | ((with_reducible apply pk4); (case h0 => assumption); (case h1 => assumption); intro z hz) | ((with_reducible apply pk5); (case h0 => assumption); (case h1 => assumption); intro z hz) | ((with_reducible refine if_mk ?gu ?_); (case gu => first | walk_at "num" | walk_at "line")))
structure TK10 (T : Str → Option Fn) : Prop extends TEf T where
  pool : T "_law_pool" = some v_law_pool
  draw : T "_law_draw" = some v_law_draw
  box : T "_law_box" = some v_law_box
  row : T "_law_row" = some v_law_row
  past : T "_law_past" = some v_law_past
  behind : T "_law_behind" = some v_law_behind
  ends : T "_law_ends" = some v_law_ends
  right : T "_law_right" = some v_law_right
  law : T "law" = some v_law
section
variable {T : Str → Option Fn} {k j : Nat} {Q : Ret → List (List D) → Prop} {X : Exn → List (List D) → Prop}
theorem right_v {cs : List D} {n : Int} (t : TK10 T) (hc : Coil j cs) (hn : 0 ≤ n) (hn2 : n ≤ 60) (hk : j ≤ 800000) (h : ∀ cs', Coil (j + 500) cs' → Q (.d (.bool true)) [cs']) : (call T (k + 8) "_law_right" [.io 0 cs, .v (.int n)]).wp Q X := call_wp t.right rfl (by decide) (by
  have hD := t.draw
  simp only [v_law_right]
  repeat walk_at "goc"
  rename_i r1 c1 a1 a2 hc1 size hz
  refine box_v (k := k + 5) t.draw t.box hc1 (by omega) (by omega) (by omega) (by omega) (by omega) (by omega) (by omega) ?_
  intro r ps c2 hr hp hp2 hc2
  clear hc1 hc
  repeat walk_at "goc"
  rename_i r3 c3 a3 a4 hc3 z2 hz2
  refine row_v (k := k + 5) t.draw t.row hc3 hn hn2 (by omega) (by omega) (by omega) ?_
  intro ts c4 ht ht2 hc4
  clear hc3 hc2
  have hp3 : ∀ p ∈ ps, p ≤ 10 ^ 30 := fun p m => by have := hp2 p m; omega
  have ke := v_lawEnds (k := k + 6) (r := r) (ps := ps) t.ends hp.most
  have kf := v_effectOf (k := k) t.toTEf hr hp ht
  have rz := zip_repr hp hp3 ht ht2
  have kb := fun s hs => v_lawBehind (k := k + 6) (r := r) (ps := ps) (s := s) (ts := ts) t.behind hp.most hs
  have kc := fun d xs h => run_clamp (ps := ps) (xs := xs) (ts := ts) (d := d) hp.nn h
  have kd := fun s => runS_dial (ps := ps) (ts := ts) (s := s)
  have lL : (runS ps (0, upL 0 ps) ts).2.length ≤ 8 := by rw [runS_len (upL_len _ _)]; exact hp.most
  have hl1 := upL_len ps 0
  have hl2 : (List.replicate ps.length (0 : Int)).length = ps.length := List.length_replicate
  have h' := Hd.mk h
  have hp3' := Hd.mk hp3
  have kb' := Hd.mk kb
  have kc' := Hd.mk kc
  have kd' := Hd.mk kd
  clear kb kc kd h hp2 hp3 ht2
  generalize eU : upL 0 ps = U at *
  generalize eB : (List.replicate ps.length 0 : List Int) = B at *
  clear eU eB
  repeat walk_at "go"
  refine lc_map (xs := [((0 : Int), U), (0, B)]) vS (fun _ => true) (fun s => vL (runS ps s ts).2) (Nat.le_of_ble_eq_true rfl) (fun s hs => ⟨_, rfl, rfl, ?_⟩) ?_
  · have hs' : s.2.length = ps.length := by
      rcases List.mem_cons.mp hs with rfl | hs
      · exact hl1
      · rw [List.mem_singleton.mp hs]; exact hl2
    have kb := kb'.h s hs'
    clear hs hs' kb' kc' kd' ke kf rz
    simp only [vS] at kb ⊢
    repeat walk_at "go"
    exact ⟨trivial, trivial, fun _ => ⟨trivial, trivial⟩⟩
  rw [show ((List.filter (fun _ => true) [((0 : Int), U), (0, B)]).map fun s => vL (runS ps s ts).2) = [vL (runS ps (0, U) ts).2, vL (runS ps (0, B) ts).2] from rfl]
  generalize (runS ps (0, U) ts).2 = L at *
  generalize (runS ps (0, B) ts).2 = M at *
  have lL2 : (vI L).length ≤ 8 := by rw [List.length_map]; exact lL
  clear ke
  repeat walk_at "go"
  rw [zipD_map]
  repeat walk_at "go"
  clear kf rz
  refine for_rng (fun u ρ => ∃ (c5 : List D) (o5 o9 o10 o11 : Option D), ρ = [.io 0 c5, .v (.int n), .v (.int size), .v (vP r ps), .v (vL ts), jk o5, .v (vL L), .v (vL M), .v (vZ L M), jk o9, jk o10, jk o11, .un, .un, .un] ∧ Coil (j + 232 + 40 * u) c5) ⟨_, none, none, none, none, rfl, hc4⟩ ?_ ?_
  · rintro u ρ hu ⟨c5, o5, o9, o10, o11, rfl, hc5⟩
    clear hc4
    refine ⟨_, rfl, ?_⟩
    repeat walk_at "goc"
    rename_i q1 c6 b1 b2 hc6 q2 c7 b3 b4 hc7
    refine past_v (k := k + 5) t.draw t.past hc7 hp hp3'.h (by omega) ?_
    intro xs c8 st hc8
    clear hc5 hc6 hc7
    repeat walk_at "goc"
    rw [zipD_map]
    have l8 : (xs.zip (L.zip M)).length ≤ 100000 := by rw [List.length_zip, List.length_zip]; omega
    refine lc_map (fun p : Int × Int × Int => PyData.tuple [.int p.1, .tuple [.int p.2.1, .int p.2.2]]) (fun _ => true) (fun q => .int ((q1 - q2) + min (max (q.1 - (q1 - q2)) q.2.1) q.2.2)) l8 (fun q hq => ⟨_, rfl, rfl, ?_⟩) ?_
    · clear kb' kc' kd' hp3' h' hq st hc8
      repeat walk_at "go"
      exact ⟨trivial, trivial, fun _ => ⟨trivial, trivial⟩⟩
    · rw [List.filter_eq_self.mpr fun _ _ => rfl]
      have e : ((xs.zip (L.zip M)).map fun q => PyData.int ((q1 - q2) + min (max (q.1 - (q1 - q2)) q.2.1) q.2.2)) = vI (runS ps (q1 - q2, xs) ts).2 := by
        rw [kc'.h _ _ st, vI, List.map_map]; rfl
      rw [e]
      have kb := kb'.h (q1 - q2, xs) st.len
      have kd := kd'.h (q1 - q2, xs)
      clear e kb' kc' kd' st
      generalize runS ps (q1 - q2, xs) ts = R at *
      have cm : cmpD .ne (vP R.1 R.2) (.tuple [.int (q1 - q2 + ts.sum), vL R.2]) = some false := by
        rw [← show R.1 = q1 - q2 + ts.sum from kd]
        rw [c_neD (Lo.dP.shaped (by decide)) (Lo.dP.shaped (by decide))]
        exact congrArg (fun b => some (!b)) (Lo.eqv Lo.dP)
      clear kd
      simp only [vS] at kb
      repeat walk_at "go"
      exact ⟨_, some _, some (.int u), some (.int (q1 - q2)), some _, rfl, hc8.mono (by omega)⟩
  · rintro ρ ⟨c5, o5, o9, o10, o11, rfl, hc5⟩
    repeat walk_at "go"
    exact h'.h _ (hc5.mono (by omega)))
theorem pool_v {ns : List Int} {at' : Int} (t : TK10 T) (h0 : 0 ≤ at') (h2 : at' ≤ 2) : ∃ cs, call T (k + 1) "_law_pool" [.v (.list (vI ns)), .v (.int at')] = .ok (.ow cs) [] ∧ Coil 0 cs := by
  have key : Hd (∀ cell : Int, Coil 0 [.int (max 0 ((cell.natAbs : Int) - 1000000000000000000)), .int (cell % 1000000000000000000117 + 8191 * (at' + 1)), .int 0]) := ⟨fun cell => ⟨_, _, _, rfl, by omega, by omega, by omega, by omega, by omega⟩⟩
  obtain ⟨u, rfl⟩ := Int.eq_ofNat_of_zero_le h0
  have g1 : IR.wid 8191 = true := wd_mk (by decide)
  have g2 : IR.wid ((u : Int) + 1) = true := wd_mk (by omega)
  by_cases c : u < (vI ns).length
  · have d1 : decide ((u : Int) < ((vI ns).length : Nat)) = true := decide_eq_true (by omega)
    have c' : u < ns.length := by simpa using c
    have a1 : atI (vI ns) (u : Int) = some (.int ns[u]) := by rw [at_nat c]; simp
    refine ⟨_, call_mo t.pool rfl (by decide) (by
      simp only [v_law_pool]
      repeat walk_at "go"
      exact ⟨trivial, rfl⟩), key.h ns[u]⟩
  · have d1 : decide ((u : Int) < ((vI ns).length : Nat)) = false := decide_eq_false (by omega)
    refine ⟨_, call_mo t.pool rfl (by decide) (by
      simp only [v_law_pool]
      repeat walk_at "go"
      exact ⟨trivial, rfl⟩), key.h 0⟩
theorem law_10 {ns : List Int} (t : TK10 T) (hn : ns.length ≤ 63) : call T (k + 9) "law" [.v (.list (vI ns))] = .ok (.d (.bool true)) [] := call_mk t.law rfl (by decide) (by
  have hv : (vI ns).length ≤ 63 := by rw [List.length_map]; exact hn
  have hD := t.draw
  simp only [v_law]
  repeat walk_at "goc"
  refine for_rng (fun u ρ => ∃ (s2 : Sl) (o1 o3 : Option D), ρ = [.v (.list (vI ns)), jk o1, s2, jk o3]) ⟨_, none, none, rfl⟩ ?_ ?_
  · rintro u ρ hu ⟨s2, o1, o3, rfl⟩
    obtain ⟨cs, kp, hc⟩ := pool_v (k := k + 7) (ns := ns) (at' := u) t (by omega) (by omega)
    refine ⟨_, rfl, ?_⟩
    repeat walk_at "go"
    clear kp
    refine for_rng (fun w ρ => ∃ (cs : List D) (o3 : Option D), ρ = [.v (.list (vI ns)), .v (.int u), .ow cs, jk o3] ∧ Coil (1000 * w) cs) ⟨_, o3, rfl, hc⟩ ?_ ?_
    · rintro w ρ hw ⟨c1, o3, rfl, hc1⟩
      refine ⟨_, rfl, ?_⟩
      repeat walk_at "goc"
      rename_i q c2 b1 b2 hc2
      refine right_v (k := k) t hc2 (by omega) (by omega) (by omega) ?_
      intro c3 hc3
      repeat walk_at "go"
      exact ⟨_, some (.int w), rfl, hc3.mono (by omega)⟩
    · rintro ρ ⟨c1, o3, rfl, hc1⟩
      by_cases c : u = 0
      · subst c
        repeat walk_at "go"
        refine right_v (k := k) t hc1 (by omega) (by omega) (by omega) ?_
        intro c3 hc3
        repeat walk_at "go"
        exact ⟨_, some (.int 0), o3, rfl⟩
      · have d1 : ((u : Int) == 0) = false := by simp; omega
        repeat walk_at "go"
        exact ⟨_, some (.int u), o3, rfl⟩
  · rintro ρ ⟨s2, o1, o3, rfl⟩
    repeat walk_at "go"
    exact ⟨trivial, rfl⟩)
end
end VM

set_option Elab.async false
set_option linter.all false
set_option maxRecDepth 100000
set_option maxHeartbeats 4000000
open PySem PySem.Spec PyProof.Rows L2 Dl IR
namespace Lk10
def topS (i : Nat) : Stmt := PySem.Challenge.pw_dialpack_k10_effects_of_large_numbers.main.body.getD i (.Pass ⟨0, 0, 0, 0⟩)
def fi_is_integer : FnI := ⟨"is_integer", topS 10, ["value"], ["value"], [], [], false⟩
def fi_is_at_least : FnI := ⟨"is_at_least", topS 11, ["value", "least"], ["value", "least"], [], [], false⟩
def fi_is_turn : FnI := ⟨"is_turn", topS 12, ["value"], ["value"], [], [], false⟩
def fi_is_pair : FnI := ⟨"is_pair", topS 13, ["value"], ["value"], [], [], false⟩
def fi_are_plays : FnI := ⟨"are_plays", topS 14, ["value", "play"], ["value"], [], [], false⟩
def fi_are_places : FnI := ⟨"are_places", topS 15, ["plays", "dial", "value", "ahead", "play", "place"], ["plays", "dial", "value"], [], [], false⟩
def fi_check_lock : FnI := ⟨"check_lock", topS 16, ["lock", "ring", "plays"], ["lock"], [], [], false⟩
def fi_check_state : FnI := ⟨"check_state", topS 17, ["lock", "state", "dial", "places"], ["lock", "state"], [], [], false⟩
def fi_check_dial : FnI := ⟨"check_dial", topS 18, ["dial"], ["dial"], [], [], false⟩
def fi_check_turns : FnI := ⟨"check_turns", topS 19, ["turns", "index", "turn"], ["turns"], [], [], false⟩
def fi_pushed_up : FnI := ⟨"pushed_up", topS 21, ["lock", "dial", "places", "ahead", "play"], ["lock", "dial"], [], [2], false⟩
def fi_pushed_back : FnI := ⟨"pushed_back", topS 22, ["lock", "dial"], ["lock", "dial"], [], [], false⟩
def fi_turned_once : FnI := ⟨"_turned_once", topS 24, ["lock", "state", "turn", "dial", "places", "new_dial", "new_places", "ahead", "play", "place"], ["lock", "state", "turn"], [], [6], false⟩
def fi_turned_state : FnI := ⟨"turned_state", topS 25, ["lock", "state", "turns", "trail", "dial", "places"], ["lock", "state", "turns"], [], [], false⟩
def fi_state_trail : FnI := ⟨"state_trail", topS 26, ["lock", "state", "turns", "trail", "behind", "turn"], ["lock", "state", "turns"], [], [3], false⟩
def fi_effect_of : FnI := ⟨"effect_of", topS 28, ["lock", "turns", "shift", "least", "_", "greatest"], ["lock", "turns"], [["turns", "lock"]], [], false⟩
def fi_law_pool : FnI := ⟨"_law_pool", topS 30, ["script", "at", "cell"], ["script", "at"], [], [], true⟩
def fi_law_draw : FnI := ⟨"_law_draw", topS 31, ["pool", "top", "drawn", "mixed"], ["pool", "top"], [], [0], false⟩
def fi_law_box : FnI := ⟨"_law_box", topS 32, ["pool", "most", "top", "far", "ring", "plays", "turn", "some"], ["pool", "most", "top", "far"], [], [0, 5], false⟩
def fi_law_row : FnI := ⟨"_law_row", topS 33, ["pool", "many", "top", "found", "turn", "amount"], ["pool", "many", "top"], [], [0, 3], false⟩
def fi_law_past : FnI := ⟨"_law_past", topS 34, ["pool", "box", "knob", "found", "ahead", "play"], ["pool", "box", "knob"], [], [0, 3], false⟩
def fi_law_behind : FnI := ⟨"_law_behind", topS 35, ["box", "past", "row", "knob", "heres", "amount", "ahead", "found", "play", "here"], ["box", "past", "row"], [], [7], false⟩
def fi_law_ends : FnI := ⟨"_law_ends", topS 36, ["box", "found", "ahead", "play"], ["box"], [], [1], false⟩
def fi_law_right : FnI := ⟨"_law_right", topS 37, ["pool", "many", "top", "box", "row", "past", "low", "high", "bounds", "turn", "knob", "heres", "here", "least", "most"], ["pool", "many"], [], [0], false⟩
def fi_law : FnI := ⟨"law", topS 38, ["script", "at", "pool", "turn"], ["script"], [], [2], false⟩
def G : Pg := ⟨[fi_is_integer, fi_is_at_least, fi_is_turn, fi_is_pair, fi_are_plays, fi_are_places, fi_check_lock, fi_check_state, fi_check_dial, fi_check_turns, fi_pushed_up, fi_pushed_back, fi_turned_once, fi_turned_state, fi_state_trail, fi_effect_of, fi_law_pool, fi_law_draw, fi_law_box, fi_law_row, fi_law_past, fi_law_behind, fi_law_ends, fi_law_right, fi_law], [("LEAST_RING", 2), ("MOST_WHEELS", 8), ("MOST_TURNS", 60)], ["ValueError", "all", "zip", "enumerate", "range", "list", "isinstance", "int", "tuple", "max", "repr", "bool", "len", "min", "abs", "sum"], true, []⟩
theorem wf_is_integer : FnWf fi_is_integer where
  sc := ⟨rfl, rfl, rfl, by decide +kernel, rfl, by decide +kernel, by decide +kernel⟩
  d := by decide
  b1 := fun kV dc pm an cd ct us hl => match us, hl with | [_], _ => rfl
  b2 := fun kV dc pm an cd ct ks hk => by cases hk
theorem wf_is_at_least : FnWf fi_is_at_least where
  sc := ⟨rfl, rfl, rfl, by decide +kernel, rfl, by decide +kernel, by decide +kernel⟩
  d := by decide
  b1 := fun kV dc pm an cd ct us hl => match us, hl with | [_, _], _ => rfl
  b2 := fun kV dc pm an cd ct ks hk => by cases hk
theorem wf_is_turn : FnWf fi_is_turn where
  sc := ⟨rfl, rfl, rfl, by decide +kernel, rfl, by decide +kernel, by decide +kernel⟩
  d := by decide
  b1 := fun kV dc pm an cd ct us hl => match us, hl with | [_], _ => rfl
  b2 := fun kV dc pm an cd ct ks hk => by cases hk
theorem wf_is_pair : FnWf fi_is_pair where
  sc := ⟨rfl, rfl, rfl, by decide +kernel, rfl, by decide +kernel, by decide +kernel⟩
  d := by decide
  b1 := fun kV dc pm an cd ct us hl => match us, hl with | [_], _ => rfl
  b2 := fun kV dc pm an cd ct ks hk => by cases hk
theorem wf_are_plays : FnWf fi_are_plays where
  sc := ⟨rfl, rfl, rfl, by decide +kernel, rfl, by decide +kernel, by decide +kernel⟩
  d := by decide
  b1 := fun kV dc pm an cd ct us hl => match us, hl with | [_], _ => rfl
  b2 := fun kV dc pm an cd ct ks hk => by cases hk
theorem wf_are_places : FnWf fi_are_places where
  sc := ⟨rfl, rfl, rfl, by decide +kernel, rfl, by decide +kernel, by decide +kernel⟩
  d := by decide
  b1 := fun kV dc pm an cd ct us hl => match us, hl with | [_, _, _], _ => rfl
  b2 := fun kV dc pm an cd ct ks hk => by cases hk
theorem wf_check_lock : FnWf fi_check_lock where
  sc := ⟨rfl, rfl, rfl, by decide +kernel, rfl, by decide +kernel, by decide +kernel⟩
  d := by decide
  b1 := fun kV dc pm an cd ct us hl => match us, hl with | [_], _ => rfl
  b2 := fun kV dc pm an cd ct ks hk => by cases hk
theorem wf_check_state : FnWf fi_check_state where
  sc := ⟨rfl, rfl, rfl, by decide +kernel, rfl, by decide +kernel, by decide +kernel⟩
  d := by decide
  b1 := fun kV dc pm an cd ct us hl => match us, hl with | [_, _], _ => rfl
  b2 := fun kV dc pm an cd ct ks hk => by cases hk
theorem wf_check_dial : FnWf fi_check_dial where
  sc := ⟨rfl, rfl, rfl, by decide +kernel, rfl, by decide +kernel, by decide +kernel⟩
  d := by decide
  b1 := fun kV dc pm an cd ct us hl => match us, hl with | [_], _ => rfl
  b2 := fun kV dc pm an cd ct ks hk => by cases hk
theorem wf_check_turns : FnWf fi_check_turns where
  sc := ⟨rfl, rfl, rfl, by decide +kernel, rfl, by decide +kernel, by decide +kernel⟩
  d := by decide
  b1 := fun kV dc pm an cd ct us hl => match us, hl with | [_], _ => rfl
  b2 := fun kV dc pm an cd ct ks hk => by cases hk
theorem wf_pushed_up : FnWf fi_pushed_up where
  sc := ⟨rfl, rfl, rfl, by decide +kernel, rfl, by decide +kernel, by decide +kernel⟩
  d := by decide
  b1 := fun kV dc pm an cd ct us hl => match us, hl with | [_, _], _ => rfl
  b2 := fun kV dc pm an cd ct ks hk => by cases hk
theorem wf_pushed_back : FnWf fi_pushed_back where
  sc := ⟨rfl, rfl, rfl, by decide +kernel, rfl, by decide +kernel, by decide +kernel⟩
  d := by decide
  b1 := fun kV dc pm an cd ct us hl => match us, hl with | [_, _], _ => rfl
  b2 := fun kV dc pm an cd ct ks hk => by cases hk
theorem wf_turned_once : FnWf fi_turned_once where
  sc := ⟨rfl, rfl, rfl, by decide +kernel, rfl, by decide +kernel, by decide +kernel⟩
  d := by decide
  b1 := fun kV dc pm an cd ct us hl => match us, hl with | [_, _, _], _ => rfl
  b2 := fun kV dc pm an cd ct ks hk => by cases hk
theorem wf_turned_state : FnWf fi_turned_state where
  sc := ⟨rfl, rfl, rfl, by decide +kernel, rfl, by decide +kernel, by decide +kernel⟩
  d := by decide
  b1 := fun kV dc pm an cd ct us hl => match us, hl with | [_, _, _], _ => rfl
  b2 := fun kV dc pm an cd ct ks hk => by cases hk
theorem wf_state_trail : FnWf fi_state_trail where
  sc := ⟨rfl, rfl, rfl, by decide +kernel, rfl, by decide +kernel, by decide +kernel⟩
  d := by decide
  b1 := fun kV dc pm an cd ct us hl => match us, hl with | [_, _, _], _ => rfl
  b2 := fun kV dc pm an cd ct ks hk => by cases hk
theorem wf_effect_of : FnWf fi_effect_of where
  sc := ⟨rfl, rfl, rfl, by decide +kernel, rfl, by decide +kernel, by decide +kernel⟩
  d := by decide
  b1 := fun kV dc pm an cd ct us hl => match us, hl with | [_, _], _ => rfl
  b2 := fun kV dc pm an cd ct ks hk ws hl => by
    simp only [fi_effect_of, List.mem_cons, List.not_mem_nil, or_false] at hk
    rcases hk with rfl
    · exact match ws, hl with | [_, _], _ => rfl
theorem wf_law_pool : FnWf fi_law_pool where
  sc := ⟨rfl, rfl, rfl, by decide +kernel, rfl, by decide +kernel, by decide +kernel⟩
  d := by decide
  b1 := fun kV dc pm an cd ct us hl => match us, hl with | [_, _], _ => rfl
  b2 := fun kV dc pm an cd ct ks hk => by cases hk
theorem wf_law_draw : FnWf fi_law_draw where
  sc := ⟨rfl, rfl, rfl, by decide +kernel, rfl, by decide +kernel, by decide +kernel⟩
  d := by decide
  b1 := fun kV dc pm an cd ct us hl => match us, hl with | [_, _], _ => rfl
  b2 := fun kV dc pm an cd ct ks hk => by cases hk
theorem wf_law_box : FnWf fi_law_box where
  sc := ⟨rfl, rfl, rfl, by decide +kernel, rfl, by decide +kernel, by decide +kernel⟩
  d := by decide
  b1 := fun kV dc pm an cd ct us hl => match us, hl with | [_, _, _, _], _ => rfl
  b2 := fun kV dc pm an cd ct ks hk => by cases hk
theorem wf_law_row : FnWf fi_law_row where
  sc := ⟨rfl, rfl, rfl, by decide +kernel, rfl, by decide +kernel, by decide +kernel⟩
  d := by decide
  b1 := fun kV dc pm an cd ct us hl => match us, hl with | [_, _, _], _ => rfl
  b2 := fun kV dc pm an cd ct ks hk => by cases hk
theorem wf_law_past : FnWf fi_law_past where
  sc := ⟨rfl, rfl, rfl, by decide +kernel, rfl, by decide +kernel, by decide +kernel⟩
  d := by decide
  b1 := fun kV dc pm an cd ct us hl => match us, hl with | [_, _, _], _ => rfl
  b2 := fun kV dc pm an cd ct ks hk => by cases hk
theorem wf_law_behind : FnWf fi_law_behind where
  sc := ⟨rfl, rfl, rfl, by decide +kernel, rfl, by decide +kernel, by decide +kernel⟩
  d := by decide
  b1 := fun kV dc pm an cd ct us hl => match us, hl with | [_, _, _], _ => rfl
  b2 := fun kV dc pm an cd ct ks hk => by cases hk
theorem wf_law_ends : FnWf fi_law_ends where
  sc := ⟨rfl, rfl, rfl, by decide +kernel, rfl, by decide +kernel, by decide +kernel⟩
  d := by decide
  b1 := fun kV dc pm an cd ct us hl => match us, hl with | [_], _ => rfl
  b2 := fun kV dc pm an cd ct ks hk => by cases hk
theorem wf_law_right : FnWf fi_law_right where
  sc := ⟨rfl, rfl, rfl, by decide +kernel, rfl, by decide +kernel, by decide +kernel⟩
  d := by decide
  b1 := fun kV dc pm an cd ct us hl => match us, hl with | [_, _], _ => rfl
  b2 := fun kV dc pm an cd ct ks hk => by cases hk
theorem wf_law : FnWf fi_law where
  sc := ⟨rfl, rfl, rfl, by decide +kernel, rfl, by decide +kernel, by decide +kernel⟩
  d := by decide
  b1 := fun kV dc pm an cd ct us hl => match us, hl with | [_], _ => rfl
  b2 := fun kV dc pm an cd ct ks hk => by cases hk
theorem wf : ∀ fi ∈ G.tab, FnWf fi := by
  intro fi hm
  simp only [G, List.mem_cons, List.not_mem_nil, or_false] at hm
  rcases hm with rfl | rfl | rfl | rfl | rfl | rfl | rfl | rfl | rfl | rfl | rfl | rfl | rfl | rfl | rfl | rfl | rfl | rfl | rfl | rfl | rfl | rfl | rfl | rfl | rfl
  · exact wf_is_integer
  · exact wf_is_at_least
  · exact wf_is_turn
  · exact wf_is_pair
  · exact wf_are_plays
  · exact wf_are_places
  · exact wf_check_lock
  · exact wf_check_state
  · exact wf_check_dial
  · exact wf_check_turns
  · exact wf_pushed_up
  · exact wf_pushed_back
  · exact wf_turned_once
  · exact wf_turned_state
  · exact wf_state_trail
  · exact wf_effect_of
  · exact wf_law_pool
  · exact wf_law_draw
  · exact wf_law_box
  · exact wf_law_row
  · exact wf_law_past
  · exact wf_law_behind
  · exact wf_law_ends
  · exact wf_law_right
  · exact wf_law
theorem T_is_integer : VM.TV G "is_integer" = some VM.v_is_integer := rfl
theorem T_is_at_least : VM.TV G "is_at_least" = some VM.v_is_at_least := rfl
theorem T_is_turn : VM.TV G "is_turn" = some VM.v_is_turn := rfl
theorem T_is_pair : VM.TV G "is_pair" = some VM.v_is_pair := rfl
theorem T_are_plays : VM.TV G "are_plays" = some VM.v_are_plays := rfl
theorem T_are_places : VM.TV G "are_places" = some VM.v_are_places := rfl
theorem T_check_lock : VM.TV G "check_lock" = some VM.v_check_lock := rfl
theorem T_check_state : VM.TV G "check_state" = some VM.v_check_state := rfl
theorem T_check_dial : VM.TV G "check_dial" = some VM.v_check_dial := rfl
theorem T_check_turns : VM.TV G "check_turns" = some VM.v_check_turns := rfl
theorem T_pushed_up : VM.TV G "pushed_up" = some VM.v_pushed_up := rfl
theorem T_pushed_back : VM.TV G "pushed_back" = some VM.v_pushed_back := rfl
theorem T_turned_once : VM.TV G "_turned_once" = some VM.v_turned_once := rfl
theorem T_turned_state : VM.TV G "turned_state" = some VM.v_turned_state := rfl
theorem T_state_trail : VM.TV G "state_trail" = some VM.v_state_trail := rfl
theorem T_effect_of : VM.TV G "effect_of" = some VM.v_effect_of := rfl
theorem T_law_pool : VM.TV G "_law_pool" = some VM.v_law_pool := rfl
theorem T_law_draw : VM.TV G "_law_draw" = some VM.v_law_draw := rfl
theorem T_law_box : VM.TV G "_law_box" = some VM.v_law_box := rfl
theorem T_law_row : VM.TV G "_law_row" = some VM.v_law_row := rfl
theorem T_law_past : VM.TV G "_law_past" = some VM.v_law_past := rfl
theorem T_law_behind : VM.TV G "_law_behind" = some VM.v_law_behind := rfl
theorem T_law_ends : VM.TV G "_law_ends" = some VM.v_law_ends := rfl
theorem T_law_right : VM.TV G "_law_right" = some VM.v_law_right := rfl
theorem T_law : VM.TV G "law" = some VM.v_law := rfl
theorem tk : VM.TK10 (VM.TV G) := by repeat' (first | exact T_is_integer | exact T_is_at_least | exact T_is_turn | exact T_is_pair | exact T_are_plays | exact T_are_places | exact T_check_lock | exact T_check_state | exact T_check_dial | exact T_check_turns | exact T_pushed_up | exact T_pushed_back | exact T_turned_once | exact T_turned_state | exact T_state_trail | exact T_effect_of | exact T_law_pool | exact T_law_draw | exact T_law_box | exact T_law_row | exact T_law_past | exact T_law_behind | exact T_law_ends | exact T_law_right | exact T_law | constructor)
theorem hR : ∀ ns : List Int, ns.length ≤ 63 → VM.call (VM.TV G) (8 + 1) "law" [.v (dI ns)] = .ok (.d (.bool true)) [] := fun ns hn => VM.law_10 (k := 0) tk hn
theorem ap2 {α : Type} {P : α → Prop} {a : α} {as : List α} (h : P a) (t : ∀ x ∈ as, P x) : ∀ x ∈ a :: as, P x := fun x hx => by
  rcases List.mem_cons.mp hx with rfl | hx
  · exact h
  · exact t x hx
theorem ap0 {α : Type} {P : α → Prop} : ∀ x ∈ ([] : List α), P x := fun x hx => by cases hx
end Lk10
open PySem PySem.W PyProof.Rows
set_option maxHeartbeats 0 in
theorem PySem.Challenge.cw_dialpack_k10_effects_of_large_numbers_holds : PySem.Challenge.rw_dialpack_k10_effects_of_large_numbers.Holds := by
  w_on; o_law; k_head; (case hw => w_witness2)
  k_fill
  refine Dl.walk_D (l := PySem.Challenge.rw_dialpack_k10_effects_of_large_numbers) (n := 63) (k := 8 + 1) (x := "script") (pd := IR.pdLaw 63) rfl (by decide) rfl ⟨rfl, by decide, by decide⟩ (fun w h Y => PySem.W.kIn_of Y) ?F (fun ns hl => ⟨ns, rfl, hl, rfl, fun _ => rfl⟩)
  case F =>
    intro w mg fa h KX G hmg
    refine' VM.law_mk (G := Lk10.G) KX G hmg ((Lk10.ap2 (Dl.fi ?a0 ?l0 ?c0 ?k0) (Lk10.ap2 (Dl.fi ?a1 ?l1 ?c1 ?k1) (Lk10.ap2 (Dl.fi ?a2 ?l2 ?c2 ?k2) (Lk10.ap2 (Dl.fi ?a3 ?l3 ?c3 ?k3) (Lk10.ap2 (Dl.fi ?a4 ?l4 ?c4 ?k4) (Lk10.ap2 (Dl.fi ?a5 ?l5 ?c5 ?k5) (Lk10.ap2 (Dl.fi ?a6 ?l6 ?c6 ?k6) (Lk10.ap2 (Dl.fi ?a7 ?l7 ?c7 ?k7) (Lk10.ap2 (Dl.fi ?a8 ?l8 ?c8 ?k8) (Lk10.ap2 (Dl.fi ?a9 ?l9 ?c9 ?k9) (Lk10.ap2 (Dl.fi ?a10 ?l10 ?c10 ?k10) (Lk10.ap2 (Dl.fi ?a11 ?l11 ?c11 ?k11) (Lk10.ap2 (Dl.fi ?a12 ?l12 ?c12 ?k12) (Lk10.ap2 (Dl.fi ?a13 ?l13 ?c13 ?k13) (Lk10.ap2 (Dl.fi ?a14 ?l14 ?c14 ?k14) (Lk10.ap2 (Dl.fi ?a15 ?l15 ?c15 ?k15) (Lk10.ap2 (Dl.fi ?a16 ?l16 ?c16 ?k16) (Lk10.ap2 (Dl.fi ?a17 ?l17 ?c17 ?k17) (Lk10.ap2 (Dl.fi ?a18 ?l18 ?c18 ?k18) (Lk10.ap2 (Dl.fi ?a19 ?l19 ?c19 ?k19) (Lk10.ap2 (Dl.fi ?a20 ?l20 ?c20 ?k20) (Lk10.ap2 (Dl.fi ?a21 ?l21 ?c21 ?k21) (Lk10.ap2 (Dl.fi ?a22 ?l22 ?c22 ?k22) (Lk10.ap2 (Dl.fi ?a23 ?l23 ?c23 ?k23) (Lk10.ap2 (Dl.fi ?a24 ?l24 ?c24 ?k24) Lk10.ap0)))))))))))))))))))))))))) ((Lk10.ap2 ⟨Dl.ci ?j25, by decide⟩ (Lk10.ap2 ⟨Dl.ci ?j26, by decide⟩ (Lk10.ap2 ⟨Dl.ci ?j27, by decide⟩ Lk10.ap0)))) ((Lk10.ap2 ?z28 (Lk10.ap2 ?z29 (Lk10.ap2 ?z30 (Lk10.ap2 ?z31 (Lk10.ap2 ?z32 (Lk10.ap2 ?z33 (Lk10.ap2 ?z34 (Lk10.ap2 ?z35 (Lk10.ap2 ?z36 (Lk10.ap2 ?z37 (Lk10.ap2 ?z38 (Lk10.ap2 ?z39 (Lk10.ap2 ?z40 (Lk10.ap2 ?z41 (Lk10.ap2 ?z42 (Lk10.ap2 ?z43 Lk10.ap0))))))))))))))))) Lk10.wf (law := Lk10.fi_law) rfl rfl Lk10.hR
    (case a0 => k_is)
    (case l0 => k_is)
    (case c0 => k_is)
    (case k0 => k_is)
    (case a1 => k_is)
    (case l1 => k_is)
    (case c1 => k_is)
    (case k1 => k_is)
    (case a2 => k_is)
    (case l2 => k_is)
    (case c2 => k_is)
    (case k2 => k_is)
    (case a3 => k_is)
    (case l3 => k_is)
    (case c3 => k_is)
    (case k3 => k_is)
    (case a4 => k_is)
    (case l4 => k_is)
    (case c4 => k_is)
    (case k4 => k_is)
    (case a5 => k_is)
    (case l5 => k_is)
    (case c5 => k_is)
    (case k5 => k_is)
    (case a6 => k_is)
    (case l6 => k_is)
    (case c6 => k_is)
    (case k6 => k_is)
    (case a7 => k_is)
    (case l7 => k_is)
    (case c7 => k_is)
    (case k7 => k_is)
    (case a8 => k_is)
    (case l8 => k_is)
    (case c8 => k_is)
    (case k8 => k_is)
    (case a9 => k_is)
    (case l9 => k_is)
    (case c9 => k_is)
    (case k9 => k_is)
    (case a10 => k_is)
    (case l10 => k_is)
    (case c10 => k_is)
    (case k10 => k_is)
    (case a11 => k_is)
    (case l11 => k_is)
    (case c11 => k_is)
    (case k11 => k_is)
    (case a12 => k_is)
    (case l12 => k_is)
    (case c12 => k_is)
    (case k12 => k_is)
    (case a13 => k_is)
    (case l13 => k_is)
    (case c13 => k_is)
    (case k13 => k_is)
    (case a14 => k_is)
    (case l14 => k_is)
    (case c14 => k_is)
    (case k14 => k_is)
    (case a15 => k_is)
    (case l15 => k_is)
    (case c15 => k_is)
    (case k15 => k_is)
    (case a16 => k_is)
    (case l16 => k_is)
    (case c16 => k_is)
    (case k16 => k_is)
    (case a17 => k_is)
    (case l17 => k_is)
    (case c17 => k_is)
    (case k17 => k_is)
    (case a18 => k_is)
    (case l18 => k_is)
    (case c18 => k_is)
    (case k18 => k_is)
    (case a19 => k_is)
    (case l19 => k_is)
    (case c19 => k_is)
    (case k19 => k_is)
    (case a20 => k_is)
    (case l20 => k_is)
    (case c20 => k_is)
    (case k20 => k_is)
    (case a21 => k_is)
    (case l21 => k_is)
    (case c21 => k_is)
    (case k21 => k_is)
    (case a22 => k_is)
    (case l22 => k_is)
    (case c22 => k_is)
    (case k22 => k_is)
    (case a23 => k_is)
    (case l23 => k_is)
    (case c23 => k_is)
    (case k23 => k_is)
    (case a24 => k_is)
    (case l24 => k_is)
    (case c24 => k_is)
    (case k24 => k_is)
    (case j25 => k_is)
    (case j26 => k_is)
    (case j27 => k_is)
    (case z28 => k_is)
    (case z29 => k_is)
    (case z30 => k_is)
    (case z31 => k_is)
    (case z32 => k_is)
    (case z33 => k_is)
    (case z34 => k_is)
    (case z35 => k_is)
    (case z36 => k_is)
    (case z37 => k_is)
    (case z38 => k_is)
    (case z39 => k_is)
    (case z40 => k_is)
    (case z41 => k_is)
    (case z42 => k_is)
    (case z43 => k_is)
