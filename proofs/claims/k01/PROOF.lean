import PyProof.Rows.All
import Wide.All
import OpenK.AllK
import Wide.FinOn
import HandS.ForMost
import HandS.ForExc
import HandS.ExcInit
import HandS.IsInst
import HandS.DictComp
import HandS.Flow
import HandS.Wide
import KE.KStateDown
import Lean
import HandS.More
import HandS.WordsExc
import HandS.Defaults
import HandS.Head0
import HandS.Head1
import HandS.Head2
import HandS.HeadEnd
import HandS.HeadHook1
import HandS.HeadHook2
import PyProof.StrBlock2
import HandS.TupAny
import PySem.Challenge.RW_latestart_k01_tokens_of_lines
set_option Elab.async false
set_option linter.all false
set_option maxRecDepth 100000
set_option maxHeartbeats 4000000
namespace Dl
open PySem L2

/-! ## data -/
inductive D where
  | non | bl (b : Bool) | int (i : Int) | str (s : List Nat) | tup (ds : List D) | lst (ds : List D) | dic (ks : List (Sum Int (List Nat))) (ds : List D) | ref (n : Nat) | scr (ns : List Int)
inductive Ob where
  | lst (ds : List D) | ins (c : Str) (fs : List (Str × D))
abbrev PEnv := List (Option D)
abbrev GS := List Ob
abbrev MG := Str → Option Value

def S (l : List Nat) : Str := ⟨l.toArray⟩
def kS : Sum Int (List Nat) → Key
  | .inl i => .inl i
  | .inr l => .inr (S l)

def LstAt (K : PySem.W.Frag) (ρ : List Addr) (H : Hp) (a : Addr) (vs : List V) : Prop := (Rd H a (.lst vs) ∧ a ∉ ρ) ∨ SqL K (fun _ => none) a vs
def TupAt (K : PySem.W.Frag) (ρ : List Addr) (H : Hp) (a : Addr) (vs : List V) : Prop := (Rd H a (.tup vs) ∧ a ∉ ρ) ∨ SqT K (fun _ => none) a vs

mutual
def RD (K : PySem.W.Frag) (ρ : List Addr) (H : Hp) : D → V → Prop
  | .non, v => v = .non
  | .bl b, v => v = .bl b
  | .int i, v => v = .int i
  | .str s, v => v = .str (S s)
  | .tup ds, v => ∃ a vs, v = .ref a ∧ TupAt K ρ H a vs ∧ RDs K ρ H ds vs
  | .lst ds, v => ∃ a vs, v = .ref a ∧ (H a = some (.lst vs) ∧ a ∉ ρ) ∧ RDs K ρ H ds vs
  | .dic ks ds, v => ∃ a kvs, v = .ref a ∧ H a = some (.dK kvs) ∧ a ∉ ρ ∧ kvs.map (·.1) = ks.map kS ∧ RDs K ρ H ds (kvs.map (·.2))
  | .ref n, v => ∃ a, ρ[n]? = some a ∧ v = .ref a
  | .scr ns, v => ∃ a, v = .ref a ∧ LstAt K ρ H a (ns.map V.int)
def RDs (K : PySem.W.Frag) (ρ : List Addr) (H : Hp) : List D → List V → Prop
  | [], vs => vs = []
  | d :: ds, vs => ∃ v r, vs = v :: r ∧ RD K ρ H d v ∧ RDs K ρ H ds r
end

theorem SqL.none {K : PySem.W.Frag} {H : Hp} {a : Addr} {vs : List V} (h : SqL K (fun _ => none) a vs) : SqL K H a vs := by
  rcases h with (h | ⟨o, h⟩) | h
  · cases h
  · cases h
  · exact .inr h
theorem SqT.none {K : PySem.W.Frag} {H : Hp} {a : Addr} {vs : List V} (h : SqT K (fun _ => none) a vs) : SqT K H a vs := by
  rcases h with (h | ⟨o, h⟩) | h
  · cases h
  · cases h
  · exact .inr h
theorem LstAt.sq {K : PySem.W.Frag} {ρ : List Addr} {H : Hp} {a : Addr} {vs : List V} (h : LstAt K ρ H a vs) : SqL K H a vs := by
  rcases h with ⟨h, _⟩ | h
  · exact .inl h
  · exact SqL.none h
theorem TupAt.sq {K : PySem.W.Frag} {ρ : List Addr} {H : Hp} {a : Addr} {vs : List V} (h : TupAt K ρ H a vs) : SqT K H a vs := by
  rcases h with ⟨h, _⟩ | h
  · exact .inl h
  · exact SqT.none h

structure Ext (ρ : List Addr) (H : Hp) (ρ' : List Addr) (H' : Hp) : Prop where
  pre : ∃ t, ρ' = ρ ++ t
  keep : ∀ a o, H a = some o → a ∉ ρ → H' a = some o
  new : ∀ a, a ∈ ρ' → a ∉ ρ → H a = none

theorem Ext.refl (ρ : List Addr) (H : Hp) : Ext ρ H ρ H := ⟨⟨[], by simp⟩, fun _ _ h _ => h, fun a h h' => absurd h h'⟩
theorem Ext.sub {ρ H ρ' H'} (e : Ext ρ H ρ' H') {a : Addr} (h : a ∈ ρ) : a ∈ ρ' := by
  obtain ⟨t, rfl⟩ := e.pre
  exact List.mem_append_left _ h
theorem Ext.notin {ρ H ρ' H'} (e : Ext ρ H ρ' H') {a : Addr} {o : HO} (h : H a = some o) (h2 : a ∉ ρ) : a ∉ ρ' := fun h3 => by
  have := e.new a h3 h2
  rw [h] at this; cases this
theorem Ext.get {ρ H ρ' H'} (e : Ext ρ H ρ' H') {n : Nat} {a : Addr} (h : ρ[n]? = some a) : ρ'[n]? = some a := by
  obtain ⟨t, rfl⟩ := e.pre
  rw [List.getElem?_append_left (List.getElem?_eq_some_iff.mp h).1]; exact h
theorem Ext.trans {ρ H ρ1 H1 ρ2 H2} (e : Ext ρ H ρ1 H1) (f : Ext ρ1 H1 ρ2 H2) : Ext ρ H ρ2 H2 where
  pre := by
    obtain ⟨t, rfl⟩ := e.pre
    obtain ⟨u, rfl⟩ := f.pre
    exact ⟨t ++ u, by simp⟩
  keep := fun a o h n => f.keep a o (e.keep a o h n) (e.notin h n)
  new := fun a h n => by
    by_cases h1 : a ∈ ρ1
    · exact e.new a h1 n
    · have z := f.new a h h1
      cases q : H a with
      | none => rfl
      | some o => rw [e.keep a o q n] at z; cases z

theorem Rd.ext {ρ H ρ' H'} (e : Ext ρ H ρ' H') {a : Addr} {u : HO} (h : Rd H a u) (n : a ∉ ρ) : Rd H' a u ∧ a ∉ ρ' := by
  rcases h with h | ⟨o, h⟩
  · exact ⟨.inl (e.keep _ _ h n), e.notin h n⟩
  · exact ⟨.inr ⟨o, e.keep _ _ h n⟩, e.notin h n⟩
theorem LstAt.ext {K ρ H ρ' H'} (e : Ext ρ H ρ' H') {a : Addr} {vs : List V} (h : LstAt K ρ H a vs) : LstAt K ρ' H' a vs := by
  rcases h with ⟨h, n⟩ | h
  · exact .inl (Rd.ext e h n)
  · exact .inr h
theorem TupAt.ext {K ρ H ρ' H'} (e : Ext ρ H ρ' H') {a : Addr} {vs : List V} (h : TupAt K ρ H a vs) : TupAt K ρ' H' a vs := by
  rcases h with ⟨h, n⟩ | h
  · exact .inl (Rd.ext e h n)
  · exact .inr h
mutual
theorem RD.ext {K ρ H ρ' H'} (e : Ext ρ H ρ' H') : ∀ {d : D} {v : V}, RD K ρ H d v → RD K ρ' H' d v
  | .non, _, h => h
  | .bl _, _, h => h
  | .int _, _, h => h
  | .str _, _, h => h
  | .tup _, _, ⟨a, vs, h1, h2, h3⟩ => ⟨a, vs, h1, h2.ext e, RDs.ext e h3⟩
  | .lst _, _, ⟨a, vs, h1, h2, h3⟩ => ⟨a, vs, h1, ⟨e.keep _ _ h2.1 h2.2, e.notin h2.1 h2.2⟩, RDs.ext e h3⟩
  | .dic _ _, _, ⟨a, kvs, h1, h2, h3, h4, h5⟩ => ⟨a, kvs, h1, e.keep _ _ h2 h3, e.notin h2 h3, h4, RDs.ext e h5⟩
  | .ref _, _, ⟨a, h1, h2⟩ => ⟨a, e.get h1, h2⟩
  | .scr _, _, ⟨a, h1, h2⟩ => ⟨a, h1, h2.ext e⟩
theorem RDs.ext {K ρ H ρ' H'} (e : Ext ρ H ρ' H') : ∀ {ds : List D} {vs : List V}, RDs K ρ H ds vs → RDs K ρ' H' ds vs
  | [], _, h => h
  | _ :: _, _, ⟨v, r, h1, h2, h3⟩ => ⟨v, r, h1, RD.ext e h2, RDs.ext e h3⟩
end

section
variable {K : PySem.W.Frag} {ρ : List Addr} {H : Hp}
theorem RDs.nil : RDs K ρ H [] [] := rfl
theorem RDs.cons {d : D} {v : V} {ds : List D} {vs : List V} (h : RD K ρ H d v) (h' : RDs K ρ H ds vs) : RDs K ρ H (d :: ds) (v :: vs) := ⟨v, vs, rfl, h, h'⟩
theorem RDs.length : ∀ {ds : List D} {vs : List V}, RDs K ρ H ds vs → ds.length = vs.length
  | [], _, h => by cases (show _ = _ from h); rfl
  | _ :: _, _, ⟨v, r, e, _, h⟩ => by subst e; simp [RDs.length h]
theorem RDs.get : ∀ {ds : List D} {vs : List V} {i : Nat} {d : D}, RDs K ρ H ds vs → ds[i]? = some d → ∃ v, vs[i]? = some v ∧ RD K ρ H d v
  | [], _, _, _, _, h => by simp at h
  | _ :: _, _, 0, d, ⟨v, r, e, h1, h2⟩, h => by subst e; simp at h; subst h; exact ⟨v, rfl, h1⟩
  | _ :: _, _, i + 1, d, ⟨v, r, e, h1, h2⟩, h => by
    subst e
    obtain ⟨w, p, q⟩ := RDs.get (i := i) (d := d) h2 (by simpa using h)
    exact ⟨w, by simpa using p, q⟩
theorem RDs.append : ∀ {ds es : List D} {vs ws : List V}, RDs K ρ H ds vs → RDs K ρ H es ws → RDs K ρ H (ds ++ es) (vs ++ ws)
  | [], _, _, _, h, h' => by cases (show _ = _ from h); exact h'
  | _ :: _, _, _, _, ⟨v, r, e, h1, h2⟩, h' => by subst e; exact ⟨v, _, rfl, h1, RDs.append h2 h'⟩
theorem RDs.set {d : D} {v : V} (r : RD K ρ H d v) : ∀ {ds : List D} {vs : List V} (i : Nat), RDs K ρ H ds vs → RDs K ρ H (ds.set i d) (vs.set i v)
  | [], _, _, h => by cases (show _ = _ from h); exact h
  | _ :: _, _, 0, ⟨_, r', e, _, h2⟩ => by subst e; exact ⟨v, _, rfl, r, h2⟩
  | _ :: _, _, i + 1, ⟨w, r', e, h1, h2⟩ => by subst e; exact ⟨w, _, rfl, h1, RDs.set r i h2⟩
theorem RDs.take : ∀ {ds : List D} {vs : List V} (n : Nat), RDs K ρ H ds vs → RDs K ρ H (ds.take n) (vs.take n)
  | _, _, 0, _ => rfl
  | [], _, n + 1, h => by cases (show _ = _ from h); rfl
  | _ :: _, _, n + 1, ⟨w, r', e, h1, h2⟩ => by subst e; exact ⟨w, _, rfl, h1, RDs.take n h2⟩
theorem RDs.drop : ∀ {ds : List D} {vs : List V} (n : Nat), RDs K ρ H ds vs → RDs K ρ H (ds.drop n) (vs.drop n)
  | _, _, 0, h => h
  | [], _, n + 1, h => by cases (show _ = _ from h); rfl
  | _ :: _, _, n + 1, ⟨w, r', e, h1, h2⟩ => by subst e; exact RDs.drop n h2
theorem RDs.reverse : ∀ {ds : List D} {vs : List V}, RDs K ρ H ds vs → RDs K ρ H ds.reverse vs.reverse
  | [], _, h => by cases (show _ = _ from h); rfl
  | _ :: _, _, ⟨w, r', e, h1, h2⟩ => by
    subst e
    rw [List.reverse_cons, List.reverse_cons]
    exact RDs.append (RDs.reverse h2) ⟨w, [], rfl, h1, rfl⟩
theorem RDs.dropLast {ds : List D} {vs : List V} (h : RDs K ρ H ds vs) : RDs K ρ H ds.dropLast vs.dropLast := by
  rw [List.dropLast_eq_take, List.dropLast_eq_take, h.length]
  exact h.take _
theorem RDs.ints : ∀ {ns : List Int}, RDs K ρ H (ns.map D.int) (ns.map V.int)
  | [] => rfl
  | n :: ns => ⟨_, _, rfl, rfl, RDs.ints⟩
end

/-! ## the state -/
def RO (K : PySem.W.Frag) (mg : Str → Option Value) (ρ : List Addr) (H : Hp) (a : Addr) : Ob → Prop
  | .lst ds => ∃ vs, H a = some (.lst vs) ∧ RDs K ρ H ds vs
  | .ins c fs => ∃ C dx fvs, mg c = some (.ref C) ∧ H a = some (.ins C dx fvs) ∧ fvs.map (·.1) = fs.map (·.1) ∧ RDs K ρ H (fs.map (·.2)) (fvs.map (·.2))
theorem RO.there {K : PySem.W.Frag} {mg : MG} {ρ : List Addr} {H : Hp} {a : Addr} {ob : Ob} (h : RO K mg ρ H a ob) : ∃ o, H a = some o := by
  cases ob with
  | lst ds => obtain ⟨vs, h, _⟩ := h; exact ⟨_, h⟩
  | ins c fs => obtain ⟨C, dx, fvs, _, h, _⟩ := h; exact ⟨_, h⟩
theorem RO.ext {K : PySem.W.Frag} {mg : MG} {ρ ρ' : List Addr} {H H' : Hp} {a : Addr} {ob : Ob} (h : RO K mg ρ H a ob) (e : Ext ρ H ρ' H') (s : H' a = H a) : RO K mg ρ' H' a ob := by
  cases ob with
  | lst ds => obtain ⟨vs, h, r⟩ := h; exact ⟨vs, s.trans h, r.ext e⟩
  | ins c fs => obtain ⟨C, dx, fvs, g, h, k, r⟩ := h; exact ⟨C, dx, fvs, g, s.trans h, k, r.ext e⟩

structure RS (K : PySem.W.Frag) (mg : Str → Option Value) (ρ : List Addr) (G : GS) (H : Hp) : Prop where
  nd : ρ.Nodup
  len : ρ.length = G.length
  at_ : ∀ (i : Nat) (a : Addr) (ob : Ob), ρ[i]? = some a → G[i]? = some ob → RO K mg ρ H a ob
theorem RS.get {K : PySem.W.Frag} {mg : MG} {ρ : List Addr} {G : GS} {H : Hp} (r : RS K mg ρ G H) {i : Nat} {ob : Ob} (h : G[i]? = some ob) : ∃ a, ρ[i]? = some a ∧ RO K mg ρ H a ob := by
  have hi : i < ρ.length := by rw [r.len]; exact (List.getElem?_eq_some_iff.mp h).1
  have ha : ρ[i]? = some ρ[i] := List.getElem?_eq_getElem hi
  exact ⟨_, ha, r.at_ i _ ob ha h⟩
theorem RS.tracked {K : PySem.W.Frag} {mg : MG} {ρ : List Addr} {G : GS} {H : Hp} (r : RS K mg ρ G H) {a : Addr} (h : a ∈ ρ) : ∃ o, H a = some o := by
  obtain ⟨i, hi, e⟩ := List.mem_iff_getElem.mp h
  have hg : i < G.length := by rw [← r.len]; exact hi
  exact (r.at_ i a G[i] (by rw [← e]; exact List.getElem?_eq_getElem hi) (List.getElem?_eq_getElem hg)).there
theorem RS.fresh {K : PySem.W.Frag} {mg : MG} {ρ : List Addr} {G : GS} {H : Hp} (r : RS K mg ρ G H) {p : Addr} (h : H p = none) : p ∉ ρ := fun q => by
  obtain ⟨o, e⟩ := r.tracked q
  rw [h] at e; cases e
/-- something untracked is laid -/
theorem RS.lay {K : PySem.W.Frag} {mg : MG} {ρ : List Addr} {G : GS} {H : Hp} (r : RS K mg ρ G H) {p : Addr} (o : HO) (h : H p = none) : Ext ρ H ρ (upd H p o) ∧ RS K mg ρ G (upd H p o) := by
  have e : Ext ρ H ρ (upd H p o) := ⟨⟨[], by simp⟩, fun a u q _ => by rw [upd_ne (ne_of_none q h)]; exact q, fun a h1 h2 => absurd h1 h2⟩
  refine ⟨e, r.nd, r.len, fun i a ob h1 h2 => (r.at_ i a ob h1 h2).ext e ?_⟩
  have : a ≠ p := fun z => r.fresh h (by rw [← z]; exact List.mem_of_getElem? h1)
  exact upd_ne this
/-- a new object -/
theorem RS.push {K : PySem.W.Frag} {mg : MG} {ρ : List Addr} {G : GS} {H : Hp} (r : RS K mg ρ G H) {p : Addr} {o : HO} {ob : Ob} (h : H p = none) (q : Ext ρ H (ρ ++ [p]) (upd H p o) → RO K mg (ρ ++ [p]) (upd H p o) p ob) : Ext ρ H (ρ ++ [p]) (upd H p o) ∧ RS K mg (ρ ++ [p]) (G ++ [ob]) (upd H p o) := by
  have hp := r.fresh h
  have e : Ext ρ H (ρ ++ [p]) (upd H p o) := by
    refine ⟨⟨[p], rfl⟩, fun a u q _ => by rw [upd_ne (ne_of_none q h)]; exact q, fun a h1 h2 => ?_⟩
    rcases List.mem_append.mp h1 with z | z
    · exact absurd z h2
    · rw [List.mem_singleton.mp z]; exact h
  refine ⟨e, ?_, ?_, fun i a ob' h1 h2 => ?_⟩
  · rw [List.nodup_append]
    exact ⟨r.nd, by simp, fun a ha b hb => by rw [List.mem_singleton.mp hb]; exact fun z => hp (z ▸ ha)⟩
  · simp [r.len]
  · by_cases hi : i < ρ.length
    · rw [List.getElem?_append_left hi] at h1
      rw [List.getElem?_append_left (by rw [← r.len]; exact hi)] at h2
      refine (r.at_ i a ob' h1 h2).ext e ?_
      have : a ≠ p := fun z => hp (by rw [← z]; exact List.mem_of_getElem? h1)
      exact upd_ne this
    · have hi' : i < (ρ ++ [p]).length := (List.getElem?_eq_some_iff.mp h1).1
      have hi2 : i = ρ.length := by simp at hi'; omega
      subst hi2
      rw [List.getElem?_append_right (Nat.le_refl _)] at h1
      simp at h1
      subst h1
      rw [r.len, List.getElem?_append_right (Nat.le_refl _)] at h2
      simp at h2
      subst h2
      exact q e
/-- an object is changed -/
theorem RS.write {K : PySem.W.Frag} {mg : MG} {ρ : List Addr} {G : GS} {H : Hp} (r : RS K mg ρ G H) {n : Nat} {p : Addr} {o : HO} {ob : Ob} (h : ρ[n]? = some p) (q : Ext ρ H ρ (upd H p o) → RO K mg ρ (upd H p o) p ob) : Ext ρ H ρ (upd H p o) ∧ RS K mg ρ (G.set n ob) (upd H p o) := by
  have hm : p ∈ ρ := List.mem_of_getElem? h
  have e : Ext ρ H ρ (upd H p o) := ⟨⟨[], by simp⟩, fun a u q z => by rw [upd_ne (fun y => z (by rw [y]; exact hm))]; exact q, fun a h1 h2 => absurd h1 h2⟩
  refine ⟨e, r.nd, by simp [r.len], fun i a ob' h1 h2 => ?_⟩
  by_cases hi : i = n
  · subst hi
    have ea : p = a := Option.some.inj (h.symm.trans h1)
    subst ea
    have hl : i < G.length := by rw [← r.len]; exact (List.getElem?_eq_some_iff.mp h).1
    rw [List.getElem?_set_self hl] at h2
    cases h2
    exact q e
  · rw [List.getElem?_set_ne (fun z => hi z.symm)] at h2
    refine (r.at_ i a ob' h1 h2).ext e ?_
    exact upd_ne fun z => hi (nd_ix r.nd h1 (by rw [z]; exact h))

def RE1 (K : PySem.W.Frag) (ρ : List Addr) (H : Hp) : Option D → Option V → Prop
  | some d, some v => RD K ρ H d v
  | some _, none => False
  | none, _ => True
structure Ct (K : PySem.W.Frag) (mg : Str → Option Value) (ρ : List Addr) (σd : PEnv) (G : GS) (σ : St) (H : Hp) : Prop where
  rs : RS K mg ρ G H
  len : σ.length = σd.length
  at_ : ∀ (i : Nat) (d : D), σd[i]? = some (some d) → ∃ v, σ[i]? = some (some v) ∧ RD K ρ H d v
theorem Ct.ext {K : PySem.W.Frag} {mg : MG} {ρ ρ' : List Addr} {σd : PEnv} {G G' : GS} {σ : St} {H H' : Hp} (c : Ct K mg ρ σd G σ H) (e : Ext ρ H ρ' H') (r : RS K mg ρ' G' H') : Ct K mg ρ' σd G' σ H' :=
  ⟨r, c.len, fun i d h => let ⟨v, h1, h2⟩ := c.at_ i d h; ⟨v, h1, h2.ext e⟩⟩
theorem Ct.set {K : PySem.W.Frag} {mg : MG} {ρ : List Addr} {σd : PEnv} {G : GS} {σ : St} {H : Hp} (c : Ct K mg ρ σd G σ H) {i : Nat} {d : D} {v : V} (r : RD K ρ H d v) : Ct K mg ρ (σd.set i (some d)) G (σ.set i (some v)) H := by
  refine ⟨c.rs, by simp [c.len], fun j e h => ?_⟩
  by_cases hij : i = j
  · subst hij
    have hi : i < σd.length := by
      have := (List.getElem?_eq_some_iff.mp h).1
      simpa using this
    rw [List.getElem?_set_self hi] at h
    cases h
    exact ⟨v, List.getElem?_set_self (by rw [c.len]; exact hi), r⟩
  · rw [List.getElem?_set_ne hij] at h
    rw [List.getElem?_set_ne hij]
    exact c.at_ j e h
end Dl
namespace Dl
open PySem L2

/-! ## what a piece of the program does: values, exceptions, or nothing known -/
inductive RE (α : Type) where
  | ok (a : α) (G : GS) | exc (c : Str) (fs : List (Str × D)) (G : GS) | bad
inductive RSt where
  | nx (σ : PEnv) (G : GS) | ret (d : D) (G : GS) | brk (σ : PEnv) (G : GS) | cont (σ : PEnv) (G : GS) | exc (c : Str) (fs : List (Str × D)) (σ : PEnv) (G : GS) | bad
abbrev DE := PEnv → GS → RE D
abbrev DA := PEnv → GS → RE (List D)
abbrev DT := PEnv → GS → RE Bool
abbrev DS := PEnv → GS → RSt
abbrev DF := List D → GS → RE D

def bindE {α β : Type} (r : RE α) (f : α → GS → RE β) : RE β := match r with
  | .ok a G => f a G
  | .exc c fs G => .exc c fs G
  | .bad => .bad
def bindS {α : Type} (r : RE α) (σ : PEnv) (f : α → GS → RSt) : RSt := match r with
  | .ok a G => f a G
  | .exc c fs G => .exc c fs σ G
  | .bad => .bad
@[simp] theorem bindE_ok {α β : Type} (a : α) (G : GS) (f : α → GS → RE β) : bindE (.ok a G) f = f a G := rfl
@[simp] theorem bindE_exc {α β : Type} (c fs) (G : GS) (f : α → GS → RE β) : bindE (.exc c fs G) f = .exc c fs G := rfl
@[simp] theorem bindE_bad {α β : Type} (f : α → GS → RE β) : bindE .bad f = .bad := rfl
@[simp] theorem bindS_ok {α : Type} (a : α) (σ : PEnv) (G : GS) (f : α → GS → RSt) : bindS (.ok a G) σ f = f a G := rfl
@[simp] theorem bindS_exc {α : Type} (c fs) (σ : PEnv) (G : GS) (f : α → GS → RSt) : bindS (.exc c fs G) σ f = .exc c fs σ G := rfl
@[simp] theorem bindS_bad {α : Type} (σ : PEnv) (f : α → GS → RSt) : bindS .bad σ f = .bad := rfl

/-! ## their reading -/
/-- the dict of an exception -/
def RX (K : PySem.W.Frag) (ρ : List Addr) (H : Hp) (dx : Addr) (fs : List (Str × D)) : Prop :=
  ∃ fvs, H dx = some (.xd fvs) ∧ dx ∉ ρ ∧ fvs.map (·.1) = fs.map (·.1) ∧ RDs K ρ H (fs.map (·.2)) (fvs.map (·.2))
theorem RX.ext {K : PySem.W.Frag} {ρ ρ' : List Addr} {H H' : Hp} {dx : Addr} {fs : List (Str × D)} (h : RX K ρ H dx fs) (e : Ext ρ H ρ' H') : RX K ρ' H' dx fs := by
  obtain ⟨fvs, h1, h2, h3, h4⟩ := h
  exact ⟨fvs, e.keep _ _ h1 h2, e.notin h1 h2, h3, h4.ext e⟩

/-- relation of a result to a V-level thing -/
def EP' {α β : Type} (K : PySem.W.Frag) (mg : MG) (R : List Addr → Hp → α → β → Prop) (W : XK) (ρ : List Addr) (H : Hp) (r : RE α) (Q : β → Hp → Prop) : Prop := match r with
  | .ok a G' => ∀ ρ' H' v, Ext ρ H ρ' H' → RS K mg ρ' G' H' → R ρ' H' a v → Q v H'
  | .exc c fs G' => ∀ ρ' H' C dx, Ext ρ H ρ' H' → RS K mg ρ' G' H' → mg c = some (.ref C) → RX K ρ' H' dx fs → W (.ref C) (some dx) H'
  | .bad => False
abbrev EPD (K : PySem.W.Frag) (mg : MG) (W : XK) (ρ : List Addr) (H : Hp) (r : RE D) (Q : VK) : Prop := EP' K mg (RD K) W ρ H r Q
abbrev EPA (K : PySem.W.Frag) (mg : MG) (W : XK) (ρ : List Addr) (H : Hp) (r : RE (List D)) (Q : List V → Hp → Prop) : Prop := EP' K mg (RDs K) W ρ H r Q
abbrev EPB (K : PySem.W.Frag) (mg : MG) (W : XK) (ρ : List Addr) (H : Hp) (r : RE Bool) (Q : Bool → Hp → Prop) : Prop := EP' K mg (fun _ _ a b => a = b) W ρ H r Q

def WA (W : WX) (σ : St) : XK := fun cls d H => W cls d σ H
def tE (K : PySem.W.Frag) (mg : MG) (W : WX) (r : DE) : TE := fun σ H Q => ∃ ρ σd G, Ct K mg ρ σd G σ H ∧ EPD K mg (WA W σ) ρ H (r σd G) Q
def tA (K : PySem.W.Frag) (mg : MG) (W : WX) (r : DA) : TA := fun σ H Q => ∃ ρ σd G, Ct K mg ρ σd G σ H ∧ EPA K mg (WA W σ) ρ H (r σd G) Q
def tT (K : PySem.W.Frag) (mg : MG) (W : WX) (r : DT) : TT := fun σ H Q => ∃ ρ σd G, Ct K mg ρ σd G σ H ∧ EPB K mg (WA W σ) ρ H (r σd G) Q
def SPst (K : PySem.W.Frag) (mg : MG) (W : WX) (ρ : List Addr) (H : Hp) (r : RSt) (D : Ends) : Prop := match r with
  | .nx σd' G' => ∀ ρ' H' σ', Ext ρ H ρ' H' → Ct K mg ρ' σd' G' σ' H' → D.nx σ' H'
  | .ret d G' => ∀ ρ' H' v, Ext ρ H ρ' H' → RS K mg ρ' G' H' → RD K ρ' H' d v → D.rt v H'
  | .brk σd' G' => ∀ ρ' H' σ', Ext ρ H ρ' H' → Ct K mg ρ' σd' G' σ' H' → D.bk σ' H'
  | .cont σd' G' => ∀ ρ' H' σ', Ext ρ H ρ' H' → Ct K mg ρ' σd' G' σ' H' → D.ct σ' H'
  | .exc c fs σd' G' => ∀ ρ' H' σ' C dx, Ext ρ H ρ' H' → Ct K mg ρ' σd' G' σ' H' → mg c = some (.ref C) → RX K ρ' H' dx fs → W (.ref C) (some dx) σ' H'
  | .bad => False
def tS (K : PySem.W.Frag) (mg : MG) (W : WX) (r : DS) : TS := fun D σ H => ∃ ρ σd G, Ct K mg ρ σd G σ H ∧ SPst K mg W ρ H (r σd G) D

section
variable {K : PySem.W.Frag} {mg : MG} {W : XK} {ρ : List Addr} {H : Hp}
theorem EP'.mono {α β : Type} {R : List Addr → Hp → α → β → Prop} {r : RE α} {Q Q' : β → Hp → Prop} (h : EP' K mg R W ρ H r Q) (k : ∀ ρ' H' G' a v, Ext ρ H ρ' H' → RS K mg ρ' G' H' → R ρ' H' a v → r = .ok a G' → Q v H' → Q' v H') : EP' K mg R W ρ H r Q' := by
  cases r with
  | ok a G' => exact fun ρ' H' v e s d => k ρ' H' G' a v e s d rfl (h ρ' H' v e s d)
  | exc c fs G' => exact h
  | bad => exact h
theorem EP'.deeper {α β : Type} {R : List Addr → Hp → α → β → Prop} {r : RE α} {Q : β → Hp → Prop} {ρ1 : List Addr} {H1 : Hp} (e : Ext ρ H ρ1 H1) (h : EP' K mg R W ρ H r Q) : EP' K mg R W ρ1 H1 r Q := by
  cases r with
  | ok a G' => exact fun ρ' H' v f s d => h ρ' H' v (e.trans f) s d
  | exc c fs G' => exact fun ρ' H' C dx f s g x => h ρ' H' C dx (e.trans f) s g x
  | bad => exact h
/-- THE rule for two pieces in a row -/
theorem EP'.bind {α β α' β' : Type} {R : List Addr → Hp → α → β → Prop} {R' : List Addr → Hp → α' → β' → Prop} {r : RE α} {f : α → GS → RE α'} {Q : β' → Hp → Prop} (h : EP' K mg R' W ρ H (bindE r f) Q) :
    EP' K mg R W ρ H r (fun v H1 => ∃ ρ1 G1 a, Ext ρ H ρ1 H1 ∧ RS K mg ρ1 G1 H1 ∧ R ρ1 H1 a v ∧ r = .ok a G1 ∧ EP' K mg R' W ρ1 H1 (f a G1) Q) := by
  cases r with
  | ok a G' => exact fun ρ' H' v e s d => ⟨ρ', G', a, e, s, d, rfl, EP'.deeper e h⟩
  | exc c fs G' => exact h
  | bad => exact h
end

section
variable {X : Cx} {W : WX}
theorem _root_.L2.PE.le {e : Expr} {t t' : TE} (h : PE X e t) (k : ∀ σ H Q, t' σ H Q → t σ H Q) : PE X e t' := ⟨fun pins s σ H Q I q => h.run pins s σ H Q I (k σ H Q q)⟩
theorem _root_.L2.PT.le {e : Expr} {t t' : TT} (h : PT X e t) (k : ∀ σ H Q, t' σ H Q → t σ H Q) : PT X e t' := ⟨fun pins s σ H Q I q => h.run pins s σ H Q I (k σ H Q q)⟩
theorem _root_.L2.PW.le {e : Expr} {t t' : TT} (h : PW X e t) (k : ∀ σ H Q, t' σ H Q → t σ H Q) : PW X e t' := ⟨fun wh pins s σ H Q I q => h.run wh pins s σ H Q I (k σ H Q q)⟩
theorem _root_.L2.PA.le {es : List Expr} {t t' : TA} (h : PA X es t) (k : ∀ σ H Q, t' σ H Q → t σ H Q) : PA X es t' := ⟨fun pos pins s σ H Q I q => h.run pos pins s σ H Q I (k σ H Q q)⟩
theorem _root_.L2.PS.le {st : Stmt} {t t' : TS} (h : PS X st t) (k : ∀ D σ H, t' D σ H → t D σ H) : PS X st t' := ⟨fun pins s σ H D I q => h.run pins s σ H D I (k D σ H q)⟩
theorem _root_.L2.PSs.le {st : List Stmt} {t t' : TS} (h : PSs X st t) (k : ∀ D σ H, t' D σ H → t D σ H) : PSs X st t' := ⟨fun pins s σ H D I q => h.run pins s σ H D I (k D σ H q)⟩

abbrev PEd (X : Cx) (W : WX) (e : Expr) (r : DE) : Prop := PE X e (tE X.K X.mg W r)
abbrev PAd (X : Cx) (W : WX) (es : List Expr) (r : DA) : Prop := PA X es (tA X.K X.mg W r)
abbrev PTd (X : Cx) (W : WX) (e : Expr) (r : DT) : Prop := PT X e (tT X.K X.mg W r)
abbrev PWd (X : Cx) (W : WX) (e : Expr) (r : DT) : Prop := PW X e (tT X.K X.mg W r)
abbrev PSd (X : Cx) (W : WX) (s : Stmt) (r : DS) : Prop := PS X s (tS X.K X.mg W r)
abbrev PSsd (X : Cx) (W : WX) (s : List Stmt) (r : DS) : Prop := PSs X s (tS X.K X.mg W r)

/-! ## names and constants -/
def eVar (i : Nat) : DE := fun σ G => match σ[i]? with
  | some (some d) => .ok d G
  | _ => .bad
def eCst (d : D) : DE := fun _ G => .ok d G
theorem le_var (i : Nat) {x : Str} {pos : Pos} (hN : X.N[i]? = some x := by rfl) (hv : Vis X.env.scope x := by first | exact Or.inl rfl | exact Or.inr (Or.inl rfl) | exact Or.inr (Or.inr rfl)) (hd : (x == ("__debug__" : Str)) = false := by decide)
    (hcd : (x == ("__classdict__" : Str)) = false := by decide) : PEd X W (.Name x pos) (eVar i) := by
  refine (pe_var hN hv hd hcd).le fun σ H Q ⟨ρ, σd, G, c, h⟩ => ?_
  unfold eVar at h
  cases q : σd[i]? with
  | none => rw [q] at h; exact h.elim
  | some o =>
    cases o with
    | none => rw [q] at h; exact h.elim
    | some d =>
      rw [q] at h
      obtain ⟨v, h1, h2⟩ := c.at_ i d q
      exact ⟨v, h1, h ρ H v (.refl _ _) c.rs h2⟩
theorem le_cst {e : Expr} {v : V} {d : D} (h : PE X e (tC v)) (r : ∀ ρ H, RD X.K ρ H d v) : PEd X W e (eCst d) :=
  h.le fun σ H Q ⟨ρ, σd, G, c, q⟩ => q ρ H v (.refl _ _) c.rs (r ρ H)
theorem le_int {i : Int} {j pos} : PEd X W (.Constant (.int i) j pos) (eCst (.int i)) := le_cst pe_int fun _ _ => rfl
theorem le_bl {b j pos} : PEd X W (.Constant (.bool b) j pos) (eCst (.bl b)) := le_cst pe_bl fun _ _ => rfl
theorem le_non {j pos} : PEd X W (.Constant .none j pos) (eCst .non) := le_cst pe_non fun _ _ => rfl
theorem le_str {s : List Nat} {x : Str} {j pos} (h : x = S s := by rfl) : PEd X W (.Constant (.str x) j pos) (eCst (.str s)) := le_cst pe_str fun _ _ => by rw [h]; rfl
theorem le_gint {x : Str} {i : Int} {t : Tok} {pos : Pos} (hg : Gl X x) (hm : X.mg x = some (.int i t)) (hd : (x == ("__debug__" : Str)) = false := by decide) : PEd X W (.Name x pos) (eCst (.int i)) :=
  le_cst (pe_glob hg hm (v := .int i) ⟨t, rfl⟩ hd) fun _ _ => rfl
theorem le_gstr {x y : Str} {s : List Nat} {t : Tok} {pos : Pos} (hg : Gl X x) (hm : X.mg x = some (.str y t)) (h : y = S s := by rfl) (hd : (x == ("__debug__" : Str)) = false := by decide) : PEd X W (.Name x pos) (eCst (.str s)) :=
  le_cst (pe_glob hg hm (v := .str y) ⟨t, rfl⟩ hd) fun _ _ => by rw [h]; rfl

/-! ## operators -/
def eBin (f : D → D → GS → RE D) (a b : DE) : DE := fun σ G => bindE (a σ G) fun x G1 => bindE (b σ G1) fun y G2 => f x y G2
def eUn (f : D → GS → RE D) (a : DE) : DE := fun σ G => bindE (a σ G) fun x G1 => f x G1
/-- a V-level operation serves a D-level one -/
def Srv2 (X : Cx) (r : R2) (f : D → D → GS → RE D) : Prop := ∀ (W : XK) ρ G H x y dx dy Q, RS X.K X.mg ρ G H → RD X.K ρ H dx x → RD X.K ρ H dy y → EPD X.K X.mg W ρ H (f dx dy G) Q → r x y H Q
def SrvC (X : Cx) (r : List V → Hp → VK → Prop) (f : List D → GS → RE D) : Prop := ∀ (W : XK) ρ G H xs dxs Q, RS X.K X.mg ρ G H → RDs X.K ρ H dxs xs → EPD X.K X.mg W ρ H (f dxs G) Q → r xs H Q
theorem tOp_le {r : R2} {f : D → D → GS → RE D} {da db : DE} (hf : Srv2 X r f) (σ : St) (H : Hp) (Q : VK) (h : tE X.K X.mg W (eBin f da db) σ H Q) : tOp r (tE X.K X.mg W da) (tE X.K X.mg W db) σ H Q := by
  obtain ⟨ρ, σd, G, c, h⟩ := h
  refine ⟨ρ, σd, G, c, (EP'.bind h).mono fun ρ1 H1 G1 a v e1 s1 d1 _ ⟨ρ2, G2, a2, e2, s2, d2, _, h2⟩ => ?_⟩
  refine ⟨ρ2, σd, G2, c.ext e2 s2, (EP'.bind h2).mono fun ρ3 H3 G3 a3 v3 _ _ _ _ ⟨ρ4, G4, a4, e4, s4, d4, _, h4⟩ => ?_⟩
  exact hf _ ρ4 G4 H3 v v3 a2 a4 Q s4 (d2.ext e4) d4 h4
theorem le_op {op : Operator} {r : R2} {f : D → D → GS → RE D} {a b : Expr} {da db : DE} {pos : Pos} (ho : OpR X (binaryOp op) r) (hf : Srv2 X r f) (ha : PEd X W a da) (hb : PEd X W b db) : PEd X W (.BinOp a op b pos) (eBin f da db) :=
  (pe_op ho ha hb).le fun σ H Q h => tOp_le hf σ H Q h
theorem le_cmp {op : CmpOp} {r : R2} {f : D → D → GS → RE D} {a b : Expr} {da db : DE} {pos : Pos} (ho : OpR X (compareOp op) r) (hf : Srv2 X r f) (ha : PEd X W a da) (hb : PEd X W b db) (hm : behindInMarks op b = false) : PEd X W (.Compare a [op] [b] pos) (eBin f da db) :=
  (pe_cmpR ho ha hb hm).le fun σ H Q h => tOp_le hf σ H Q h
theorem le_ix {r : R2} {f : D → D → GS → RE D} {a b : Expr} {da db : DE} {pos : Pos} (ho : IxR X r) (hf : Srv2 X r f) (ha : PEd X W a da) (hb : PEd X W b db) (hs : PlainIx b) : PEd X W (.Subscript a b pos) (eBin f da db) :=
  (pe_ix ho ha hb hs).le fun σ H Q h => tOp_le hf σ H Q h

/-! ## tests -/
def truth (d : D) (G : GS) : RE Bool := match d with
  | .bl b => .ok b G
  | _ => .bad
def dT (e : DE) : DT := fun σ G => bindE (e σ G) truth
def ofT (e : DT) : DE := fun σ G => bindE (e σ G) fun b G1 => .ok (.bl b) G1
theorem le_test {e : Expr} {d : DE} (h : PEd X W e d) (he : ∀ whole, isTrue e X.env whole = (do let v ← whole; standAt e.pos; holding [v] (truthy v)) := by intro _; rfl) : PTd X W e (dT d) := by
  refine (pt_val h he).le fun σ H Q ⟨ρ, σd, G, c, q⟩ => ?_
  refine ⟨ρ, σd, G, c, (EP'.bind q).mono fun ρ1 H1 G1 a v e1 s1 d1 _ ⟨ρ2, G2, a2, e2, s2, d2, _, h2⟩ => ?_⟩
  cases a2 with
  | bl b => exact ⟨b, d2, h2 ρ2 H1 b (.refl _ _) s2 rfl⟩
  | _ => exact h2.elim
theorem le_tcmp {op : CmpOp} {r : R2} {f : D → D → GS → RE D} {a b : Expr} {da db : DE} {pos : Pos} (ho : OpR X (compareOp op) r) (hf : Srv2 X r f) (ha : PEd X W a da) (hb : PEd X W b db) (hm : behindInMarks op b = false) : PTd X W (.Compare a [op] [b] pos) (dT (eBin f da db)) := by
  refine (pt_cmpR ho ha hb hm).le fun σ H Q h => ?_
  have key : tE X.K X.mg W (eBin f da db) σ H (fun x H' => ∃ k, x = .bl k ∧ Q k H') := by
    obtain ⟨ρ, σd, G, c, q⟩ := h
    refine ⟨ρ, σd, G, c, (EP'.bind q).mono fun ρ1 H1 G1 a v e1 s1 d1 _ ⟨ρ2, G2, a2, e2, s2, d2, _, h2⟩ => ?_⟩
    cases a2 with
    | bl b => exact ⟨b, d2, h2 ρ2 H1 b (.refl _ _) s2 rfl⟩
    | _ => exact h2.elim
  exact tOp_le hf σ H _ key
def dAnd (a b : DT) : DT := fun σ G => bindE (a σ G) fun x G1 => if x = true then b σ G1 else .ok false G1
def dOr (a b : DT) : DT := fun σ G => bindE (a σ G) fun x G1 => if x = true then .ok true G1 else b σ G1
def dNot (a : DT) : DT := fun σ G => bindE (a σ G) fun x G1 => .ok (!x) G1
theorem le_and {a b : Expr} {rest : List Expr} {da db : DT} {pos : Pos} (ha : PTd X W a da) (hb : PWd X W (.BoolOp .And (b :: rest) pos) db) : PWd X W (.BoolOp .And (a :: b :: rest) pos) (dAnd da db) := by
  refine (pw_and ha hb).le fun σ H Q ⟨ρ, σd, G, c, q⟩ => ?_
  refine ⟨ρ, σd, G, c, (EP'.bind q).mono fun ρ1 H1 G1 a v e1 s1 d1 _ ⟨ρ2, G2, a2, e2, s2, d2, _, h2⟩ => ?_⟩
  subst d2
  cases a2 with
  | true => exact ⟨ρ2, σd, G2, c.ext e2 s2, h2⟩
  | false => exact h2 ρ2 H1 false (.refl _ _) s2 rfl
theorem le_or {a b : Expr} {rest : List Expr} {da db : DT} {pos : Pos} (ha : PTd X W a da) (hb : PWd X W (.BoolOp .Or (b :: rest) pos) db) : PWd X W (.BoolOp .Or (a :: b :: rest) pos) (dOr da db) := by
  refine (pw_or ha hb).le fun σ H Q ⟨ρ, σd, G, c, q⟩ => ?_
  refine ⟨ρ, σd, G, c, (EP'.bind q).mono fun ρ1 H1 G1 a v e1 s1 d1 _ ⟨ρ2, G2, a2, e2, s2, d2, _, h2⟩ => ?_⟩
  subst d2
  cases a2 with
  | false => exact ⟨ρ2, σd, G2, c.ext e2 s2, h2⟩
  | true => exact h2 ρ2 H1 true (.refl _ _) s2 rfl
theorem le_and1 {a : Expr} {da : DT} {pos : Pos} (ha : PTd X W a da) : PWd X W (.BoolOp .And [a] pos) da := pw_and1 ha
theorem le_or1 {a : Expr} {da : DT} {pos : Pos} (ha : PTd X W a da) : PWd X W (.BoolOp .Or [a] pos) da := pw_or1 ha
theorem le_not {a : Expr} {da : DT} {pos : Pos} (ha : PTd X W a da) : PTd X W (.UnaryOp .Not a pos) (dNot da) := by
  refine (pt_not ha).le fun σ H Q ⟨ρ, σd, G, c, q⟩ => ?_
  refine ⟨ρ, σd, G, c, (EP'.bind q).mono fun ρ1 H1 G1 a v e1 s1 d1 _ ⟨ρ2, G2, a2, e2, s2, d2, _, h2⟩ => ?_⟩
  subst d2
  exact h2 ρ2 H1 _ (.refl _ _) s2 rfl
/-- and, or, not as values of truth -/
def eAnd (a b : DE) : DE := fun σ G => bindE (bindE (a σ G) truth) fun x G1 => if x = true then b σ G1 else .ok (.bl false) G1
def eOr (a b : DE) : DE := fun σ G => bindE (bindE (a σ G) truth) fun x G1 => if x = true then .ok (.bl true) G1 else b σ G1
def eNot (a : DE) : DE := fun σ G => bindE (bindE (a σ G) truth) fun x G1 => .ok (.bl (!x)) G1
theorem truth_ok {K : PySem.W.Frag} {mg : MG} {W : XK} {ρ : List Addr} {H : Hp} {r : RE D} {α β : Type} {R : List Addr → Hp → α → β → Prop} {f : Bool → GS → RE α} {Q : β → Hp → Prop}
    (h : EP' K mg R W ρ H (bindE (bindE r truth) f) Q) : EPD K mg W ρ H r (fun v H1 => ∃ b ρ1 G1, v = .bl b ∧ Ext ρ H ρ1 H1 ∧ RS K mg ρ1 G1 H1 ∧ EP' K mg R W ρ1 H1 (f b G1) Q) := by
  cases r with
  | bad => exact h
  | exc c fs G' => exact h
  | ok a G' =>
    cases a with
    | bl b => exact fun ρ' H' v e s d => ⟨b, ρ', G', d, e, s, EP'.deeper e h⟩
    | _ => exact h.elim
theorem le_andV {a b : Expr} {rest : List Expr} {da db : DE} {pos : Pos} (ha : PEd X W a da) (hb : PEd X W (.BoolOp .And (b :: rest) pos) db) : PEd X W (.BoolOp .And (a :: b :: rest) pos) (eAnd da db) := by
  refine (pe_and ha hb).le fun σ H Q ⟨ρ, σd, G, c, q⟩ => ?_
  refine ⟨ρ, σd, G, c, (truth_ok q).mono fun ρ1 H1 G1 a v e1 s1 d1 _ ⟨k, ρ2, G2, ev, e2, s2, h2⟩ => ?_⟩
  subst ev
  refine ⟨k, rfl, ?_⟩
  cases k with
  | true => exact ⟨ρ2, σd, G2, c.ext e2 s2, h2⟩
  | false => exact h2 ρ2 H1 _ (.refl _ _) s2 rfl
theorem le_orV {a b : Expr} {rest : List Expr} {da db : DE} {pos : Pos} (ha : PEd X W a da) (hb : PEd X W (.BoolOp .Or (b :: rest) pos) db) : PEd X W (.BoolOp .Or (a :: b :: rest) pos) (eOr da db) := by
  refine (pe_or ha hb).le fun σ H Q ⟨ρ, σd, G, c, q⟩ => ?_
  refine ⟨ρ, σd, G, c, (truth_ok q).mono fun ρ1 H1 G1 a v e1 s1 d1 _ ⟨k, ρ2, G2, ev, e2, s2, h2⟩ => ?_⟩
  subst ev
  refine ⟨k, rfl, ?_⟩
  cases k with
  | false => exact ⟨ρ2, σd, G2, c.ext e2 s2, h2⟩
  | true => exact h2 ρ2 H1 _ (.refl _ _) s2 rfl
theorem le_oneV {op : BoolOp} {a : Expr} {da : DE} {pos : Pos} (ha : PEd X W a da) : PEd X W (.BoolOp op [a] pos) da := pe_one ha
theorem le_notV {a : Expr} {da : DE} {pos : Pos} (ha : PEd X W a da) : PEd X W (.UnaryOp .Not a pos) (eNot da) := by
  refine (pe_not ha).le fun σ H Q ⟨ρ, σd, G, c, q⟩ => ?_
  refine ⟨ρ, σd, G, c, (truth_ok q).mono fun ρ1 H1 G1 a v e1 s1 d1 _ ⟨k, ρ2, G2, ev, e2, s2, h2⟩ => ?_⟩
  subst ev
  exact ⟨k, rfl, h2 ρ2 H1 _ (.refl _ _) s2 rfl⟩
def eIf (c : DT) (a b : DE) : DE := fun σ G => bindE (c σ G) fun x G1 => if x = true then a σ G1 else b σ G1
theorem le_ifx {t a b : Expr} {dt : DT} {da db : DE} {pos : Pos} (ht : PTd X W t dt) (ha : PEd X W a da) (hb : PEd X W b db) : PEd X W (.IfExp t a b pos) (eIf dt da db) := by
  refine (pe_ifExp ht ha hb).le fun σ H Q ⟨ρ, σd, G, c, q⟩ => ?_
  refine ⟨ρ, σd, G, c, (EP'.bind q).mono fun ρ1 H1 G1 a v e1 s1 d1 _ ⟨ρ2, G2, a2, e2, s2, d2, _, h2⟩ => ?_⟩
  subst d2
  cases a2 with
  | true => exact ⟨ρ2, σd, G2, c.ext e2 s2, h2⟩
  | false => exact ⟨ρ2, σd, G2, c.ext e2 s2, h2⟩

/-! ## arguments, displays -/
def aNil : DA := fun _ G => .ok [] G
def aCons (e : DE) (r : DA) : DA := fun σ G => bindE (e σ G) fun x G1 => bindE (r σ G1) fun xs G2 => .ok (x :: xs) G2
theorem le_anil : PAd X W [] aNil := pa_nil.le fun σ H Q ⟨ρ, σd, G, c, q⟩ => q ρ H [] (.refl _ _) c.rs rfl
theorem le_acons {e : Expr} {es : List Expr} {d : DE} {r : DA} (he : PEd X W e d) (hr : PAd X W es r) (hs : starEach (e :: es) X.env = (false, eval e X.env) :: starEach es X.env := by rfl) : PAd X W (e :: es) (aCons d r) := by
  refine (pa_cons he hr hs).le fun σ H Q ⟨ρ, σd, G, c, q⟩ => ?_
  refine ⟨ρ, σd, G, c, (EP'.bind q).mono fun ρ1 H1 G1 a v e1 s1 d1 _ ⟨ρ2, G2, a2, e2, s2, d2, _, h2⟩ => ?_⟩
  refine ⟨ρ2, σd, G2, c.ext e2 s2, (EP'.bind h2).mono fun ρ3 H3 G3 a3 v3 _ _ _ _ ⟨ρ4, G4, a4, e4, s4, d4, _, h4⟩ => ?_⟩
  exact h4 ρ4 H3 _ (.refl _ _) s4 ⟨v, v3, rfl, d2.ext e4, d4⟩
def maxLine : Nat := 16777216
theorem maxLine_eq : maxLine = sizeLine := sizeLine_eq.symm
def eTup (a : DA) : DE := fun σ G => bindE (a σ G) fun xs G1 => if xs.length ≤ maxLine then .ok (.tup xs) G1 else .bad
/-- a list that is not changed -/
def eLst (a : DA) : DE := fun σ G => bindE (a σ G) fun xs G1 => if xs.length ≤ maxLine then .ok (.lst xs) G1 else .bad
/-- a list that may be changed -/
def eNew (a : DA) : DE := fun σ G => bindE (a σ G) fun xs G1 => if xs.length ≤ maxLine then .ok (.ref G1.length) (G1 ++ [.lst xs]) else .bad
section
variable {es : List Expr} {r : DA} {pos : Pos}
theorem le_tup {x1} (h : PAd X W es r) : PEd X W (.Tuple es x1 pos) (eTup r) := by
  refine (pe_tup h).le fun σ H Q ⟨ρ, σd, G, c, q⟩ => ?_
  refine ⟨ρ, σd, G, c, (EP'.bind q).mono fun ρ1 H1 G1 a v e1 s1 d1 _ ⟨ρ2, G2, a2, e2, s2, d2, _, h2⟩ => ?_⟩
  by_cases hl : a2.length ≤ maxLine
  · rw [if_pos hl] at h2
    refine ⟨by rw [← d2.length, ← maxLine_eq]; exact hl, fun p hp => ?_⟩
    obtain ⟨e, s⟩ := s2.lay (.tup v) hp
    exact h2 ρ2 _ _ e s ⟨p, v, rfl, .inl ⟨.inl upd_same, s2.fresh hp⟩, d2.ext e⟩
  · rw [if_neg hl] at h2; exact h2.elim
theorem le_lst (h : PAd X W es r) : PEd X W (.List es pos) (eLst r) := by
  refine (pe_lst h).le fun σ H Q ⟨ρ, σd, G, c, q⟩ => ?_
  refine ⟨ρ, σd, G, c, (EP'.bind q).mono fun ρ1 H1 G1 a v e1 s1 d1 _ ⟨ρ2, G2, a2, e2, s2, d2, _, h2⟩ => ?_⟩
  by_cases hl : a2.length ≤ maxLine
  · rw [if_pos hl] at h2
    refine ⟨by rw [← d2.length, ← maxLine_eq]; exact hl, fun p hp => ?_⟩
    obtain ⟨e, s⟩ := s2.lay (.lst v) hp
    exact h2 ρ2 _ _ e s ⟨p, v, rfl, ⟨upd_same, s2.fresh hp⟩, d2.ext e⟩
  · rw [if_neg hl] at h2; exact h2.elim
/-- a new list in the store -/
theorem new_lst {K : PySem.W.Frag} {mg : MG} {W : XK} {ρ : List Addr} {G : GS} {H : Hp} {xs : List D} {v : List V} {Q : VK} (s : RS K mg ρ G H) (d : RDs K ρ H xs v) (h : EPD K mg W ρ H (.ok (.ref G.length) (G ++ [.lst xs])) Q) {p : Addr} (hp : H p = none) : Q (.ref p) (upd H p (.lst v)) := by
  obtain ⟨e, s'⟩ := s.push (o := .lst v) (ob := .lst xs) hp fun e => ⟨v, upd_same, d.ext e⟩
  exact h _ _ _ e s' ⟨p, by rw [← s.len, List.getElem?_append_right (Nat.le_refl _)]; simp, rfl⟩
theorem le_new (h : PAd X W es r) : PEd X W (.List es pos) (eNew r) := by
  refine (pe_lst h).le fun σ H Q ⟨ρ, σd, G, c, q⟩ => ?_
  refine ⟨ρ, σd, G, c, (EP'.bind q).mono fun ρ1 H1 G1 a v e1 s1 d1 _ ⟨ρ2, G2, a2, e2, s2, d2, _, h2⟩ => ?_⟩
  by_cases hl : a2.length ≤ maxLine
  · rw [if_pos hl] at h2
    exact ⟨by rw [← d2.length, ← maxLine_eq]; exact hl, fun p hp => new_lst s2 d2 h2 hp⟩
  · rw [if_neg hl] at h2; exact h2.elim
end
/-! ## calls of built-in things -/
def eApp (f : List D → GS → RE D) (a : DA) : DE := fun σ G => bindE (a σ G) fun xs G1 => f xs G1
theorem tCB_le {r : List V → Hp → VK → Prop} {f : List D → GS → RE D} {da : DA} (hf : SrvC X r f) (σ : St) (H : Hp) (Q : VK) (h : tE X.K X.mg W (eApp f da) σ H Q) : tCB r (tA X.K X.mg W da) σ H Q := by
  obtain ⟨ρ, σd, G, c, h⟩ := h
  refine ⟨ρ, σd, G, c, (EP'.bind h).mono fun ρ1 H1 G1 a v e1 s1 d1 _ ⟨ρ2, G2, a2, e2, s2, d2, _, h2⟩ => ?_⟩
  exact hf _ ρ2 G2 H1 v a2 Q s2 d2 h2
section
variable {x : Str} {p pos : Pos} {e : Expr} {es : List Expr} {da : DA} {id T : String} {r : List V → Hp → VK → Prop} {f : List D → GS → RE D}
theorem le_callB (hc : CallR X (.builtin id) r) (hf : SrvC X r f) (hg : Gl X x) (hm : X.mg x = none) (hv : bootBuiltins x = some (.builtin id)) (ha : PAd X W (e :: es) da) (hn : x ≠ "__name__" := by decide) (hdb : (x == ("__debug__" : Str)) = false := by decide)
    (he : starEach (e :: es) X.env = (false, eval e X.env) :: starEach es X.env := by rfl) (hpl : (backTo pos (starEach es X.env)).any (·.1) = false := by rfl) : PEd X W (.Call (.Name x p) (e :: es) [] pos) (eApp f da) :=
  (pe_callB hc hg hm hv ha hn hdb he hpl).le fun σ H Q h => tCB_le hf σ H Q h
theorem le_callTy (hc : CallR X (.type T) r) (hf : SrvC X r f) (hg : Gl X x) (hm : X.mg x = none) (hv : bootBuiltins x = some (.type T)) (ha : PAd X W (e :: es) da) (hn : x ≠ "__name__" := by decide) (hdb : (x == ("__debug__" : Str)) = false := by decide)
    (he : starEach (e :: es) X.env = (false, eval e X.env) :: starEach es X.env := by rfl) (hpl : (backTo pos (starEach es X.env)).any (·.1) = false := by rfl) : PEd X W (.Call (.Name x p) (e :: es) [] pos) (eApp f da) :=
  (pe_callTy hc hg hm hv ha hn hdb he hpl).le fun σ H Q h => tCB_le hf σ H Q h
end
end
end Dl
namespace Dl
open PySem L2

/-! ## statements -/
def seqR (r : RSt) (b : DS) : RSt := match r with
  | .nx σ G => b σ G
  | r => r
@[simp] theorem seqR_nx (σ G) (b : DS) : seqR (.nx σ G) b = b σ G := rfl
@[simp] theorem seqR_ret (d G) (b : DS) : seqR (.ret d G) b = .ret d G := rfl
@[simp] theorem seqR_brk (σ G) (b : DS) : seqR (.brk σ G) b = .brk σ G := rfl
@[simp] theorem seqR_cont (σ G) (b : DS) : seqR (.cont σ G) b = .cont σ G := rfl
@[simp] theorem seqR_exc (c fs σ G) (b : DS) : seqR (.exc c fs σ G) b = .exc c fs σ G := rfl
@[simp] theorem seqR_bad (b : DS) : seqR .bad b = .bad := rfl
/-- behind a turn of a loop -/
def turnR (r : RSt) (go : DS) : RSt := match r with
  | .nx σ G => go σ G
  | .cont σ G => go σ G
  | .brk σ G => .nx σ G
  | .ret d G => .ret d G
  | .exc c fs σ G => .exc c fs σ G
  | .bad => .bad
@[simp] theorem turnR_nx (σ G) (b : DS) : turnR (.nx σ G) b = b σ G := rfl
@[simp] theorem turnR_ret (d G) (b : DS) : turnR (.ret d G) b = .ret d G := rfl
@[simp] theorem turnR_brk (σ G) (b : DS) : turnR (.brk σ G) b = .nx σ G := rfl
@[simp] theorem turnR_cont (σ G) (b : DS) : turnR (.cont σ G) b = b σ G := rfl
@[simp] theorem turnR_exc (c fs σ G) (b : DS) : turnR (.exc c fs σ G) b = .exc c fs σ G := rfl
@[simp] theorem turnR_bad (b : DS) : turnR .bad b = .bad := rfl

def sNil : DS := fun σ G => .nx σ G
def sSeq (a b : DS) : DS := fun σ G => seqR (a σ G) b
def sAsg (i : Nat) (e : DE) : DS := fun σ G => bindS (e σ G) σ fun d G1 => .nx (σ.set i (some d)) G1
def sExp (e : DE) : DS := fun σ G => bindS (e σ G) σ fun _ G1 => .nx σ G1
def sRet (e : DE) : DS := fun σ G => bindS (e σ G) σ fun d G1 => .ret d G1
def sRetN : DS := fun _ G => .ret .non G
def sBrk : DS := fun σ G => .brk σ G
def sCont : DS := fun σ G => .cont σ G
def sIf (c : DT) (a b : DS) : DS := fun σ G => bindS (c σ G) σ fun k G1 => if k = true then a σ G1 else b σ G1
def sWhile (n : Nat) (c : DT) (b : DS) : DS := match n with
  | 0 => fun _ _ => .bad
  | n + 1 => fun σ G => bindS (c σ G) σ fun k G1 => if k = true then turnR (b σ G1) (sWhile n c b) else .nx σ G1

section
variable {K : PySem.W.Frag} {mg : MG} {W : WX} {ρ : List Addr} {H : Hp}
theorem SPst.deeper {r : RSt} {Dn : Ends} {ρ1 : List Addr} {H1 : Hp} (e : Ext ρ H ρ1 H1) (h : SPst K mg W ρ H r Dn) : SPst K mg W ρ1 H1 r Dn := by
  cases r with
  | nx σ G => exact fun ρ' H' σ' f c => h ρ' H' σ' (e.trans f) c
  | ret d G => exact fun ρ' H' v f s r => h ρ' H' v (e.trans f) s r
  | brk σ G => exact fun ρ' H' σ' f c => h ρ' H' σ' (e.trans f) c
  | cont σ G => exact fun ρ' H' σ' f c => h ρ' H' σ' (e.trans f) c
  | exc c fs σ G => exact fun ρ' H' σ' C dx f c g x => h ρ' H' σ' C dx (e.trans f) c g x
  | bad => exact h
theorem SPst.bind {α β : Type} {R : List Addr → Hp → α → β → Prop} {r : RE α} {σd : PEnv} {G : GS} {σ : St} {f : α → GS → RSt} {Dn : Ends} (c : Ct K mg ρ σd G σ H) (h : SPst K mg W ρ H (bindS r σd f) Dn) :
    EP' K mg R (WA W σ) ρ H r (fun v H1 => ∃ ρ1 G1 a, Ext ρ H ρ1 H1 ∧ Ct K mg ρ1 σd G1 σ H1 ∧ R ρ1 H1 a v ∧ SPst K mg W ρ1 H1 (f a G1) Dn) := by
  cases r with
  | ok a G' => exact fun ρ' H' v e s d => ⟨ρ', G', a, e, c.ext e s, d, SPst.deeper e h⟩
  | exc cc fs G' => exact fun ρ' H' C dx e s g x => h ρ' H' σ C dx e (c.ext e s) g x
  | bad => exact h
theorem SPst.seq {r : RSt} {b : DS} {Dn : Ends} (h : SPst K mg W ρ H (seqR r b) Dn) : SPst K mg W ρ H r { Dn with nx := tS K mg W b Dn } := by
  cases r with
  | nx σ G => exact fun ρ' H' σ' e c => ⟨ρ', σ, G, c, SPst.deeper e h⟩
  | ret d G => exact h
  | brk σ G => exact h
  | cont σ G => exact h
  | exc c fs σ G => exact h
  | bad => exact h
theorem SPst.turn {r : RSt} {b : DS} {Dn : Ends} (h : SPst K mg W ρ H (turnR r b) Dn) : SPst K mg W ρ H r { Dn with nx := tS K mg W b Dn, ct := tS K mg W b Dn, bk := Dn.nx } := by
  cases r with
  | nx σ G => exact fun ρ' H' σ' e c => ⟨ρ', σ, G, c, SPst.deeper e h⟩
  | ret d G => exact h
  | brk σ G => exact h
  | cont σ G => exact fun ρ' H' σ' e c => ⟨ρ', σ, G, c, SPst.deeper e h⟩
  | exc c fs σ G => exact h
  | bad => exact h
end

section
variable {X : Cx} {W : WX} {st : Stmt} {rest : List Stmt} {e c : Expr} {pos : Pos}
theorem le_nil : PSsd X W [] sNil := pss_nil.le fun Dn σ H ⟨ρ, σd, G, c, h⟩ => h ρ H σ (.refl _ _) c
theorem le_seq {a b : DS} (h1 : PSd X W st a) (h2 : PSsd X W rest b) : PSsd X W (st :: rest) (sSeq a b) :=
  (pss_cons h1 h2).le fun Dn σ H ⟨ρ, σd, G, c, h⟩ => ⟨ρ, σd, G, c, SPst.seq h⟩
theorem le_one {a : DS} (h1 : PSd X W st a) : PSsd X W [st] a := pss_one h1
theorem le_pass : PSd X W (.Pass pos) sNil := ps_pass.le fun Dn σ H ⟨ρ, σd, G, c, h⟩ => h ρ H σ (.refl _ _) c
theorem le_brk : PSd X W (.Break pos) sBrk := ps_break.le fun Dn σ H ⟨ρ, σd, G, c, h⟩ => h ρ H σ (.refl _ _) c
theorem le_cont : PSd X W (.Continue pos) sCont := ps_continue.le fun Dn σ H ⟨ρ, σd, G, c, h⟩ => h ρ H σ (.refl _ _) c
theorem le_doc {x j pos pos'} : PSd X W (.Expr (.Constant (.str x) j pos) pos') sNil := ps_doc.le fun Dn σ H ⟨ρ, σd, G, c, h⟩ => h ρ H σ (.refl _ _) c
theorem le_exp {d : DE} (he : PEd X W e d) (hs : swapsWith e none pos.line X.env = pure false := by rfl) : PSd X W (.Expr e pos) (sExp d) :=
  (ps_expr he hs).le fun Dn σ H ⟨ρ, σd, G, c, h⟩ => ⟨ρ, σd, G, c, (SPst.bind c h).mono fun _ _ _ _ _ _ _ _ _ ⟨ρ1, G1, a, e1, c1, d1, h1⟩ => h1 _ _ _ (.refl _ _) c1⟩
theorem le_ret {d : DE} (he : PEd X W e d) : PSd X W (.Return (some e) pos) (sRet d) :=
  (ps_ret he).le fun Dn σ H ⟨ρ, σd, G, c, h⟩ => ⟨ρ, σd, G, c, (SPst.bind c h).mono fun _ _ _ _ _ _ _ _ _ ⟨ρ1, G1, a, e1, c1, d1, h1⟩ => h1 _ _ _ (.refl _ _) c1.rs d1⟩
theorem le_retN : PSd X W (.Return none pos) sRetN := ps_retN.le fun Dn σ H ⟨ρ, σd, G, c, h⟩ => h ρ H _ (.refl _ _) c.rs rfl
theorem le_if {a b : List Stmt} {dc : DT} {da db : DS} (hc : PTd X W c dc) (ha : PSsd X W a da) (hb : PSsd X W b db) : PSd X W (.If c a b pos) (sIf dc da db) := by
  refine (ps_if hc ha hb).le fun Dn σ H ⟨ρ, σd, G, c, h⟩ => ⟨ρ, σd, G, c, (SPst.bind c h).mono fun _ _ _ _ _ _ _ _ _ ⟨ρ1, G1, a, e1, c1, d1, h1⟩ => ?_⟩
  subst d1
  cases a with
  | true => exact ⟨ρ1, σd, G1, c1, h1⟩
  | false => exact ⟨ρ1, σd, G1, c1, h1⟩
theorem le_while {body : List Stmt} {dc : DT} {db : DS} (n : Nat) (hp : PassesOwn (model X.prog X.w) X.A X.env X.xe) (hc : PTd X W c dc) (hb : PSsd X W body db) : PSd X W (.While c body [] pos) (sWhile n dc db) := by
  refine (ps_while hp hc hb).le fun Dn σ H h => ?_
  refine ⟨fun m σ H => tS X.K X.mg W (sWhile m dc db) Dn σ H, ⟨n, h⟩, ?_⟩
  rintro m σ H ⟨ρ, σd, G, c, h⟩
  cases m with
  | zero => exact h.elim
  | succ m =>
    refine ⟨ρ, σd, G, c, (SPst.bind c h).mono fun _ _ _ _ _ _ _ _ _ ⟨ρ1, G1, a, e1, c1, d1, h1⟩ => ?_⟩
    subst d1
    cases a with
    | false => exact h1 _ _ _ (.refl _ _) c1
    | true => exact ⟨tS X.K X.mg W (sWhile m dc db) Dn, fun σ' H' q => ⟨m, Nat.lt_succ_self m, q⟩, ρ1, σd, G1, c1, SPst.turn h1⟩

/-! ## targets -/
abbrev DG := D → PEnv → Option PEnv
def tG (K : PySem.W.Frag) (mg : MG) (g : DG) : TG := fun v σ H Q => ∃ ρ σd G d, Ct K mg ρ σd G σ H ∧ RD K ρ H d v ∧ (match g d σd with | some σd' => ∀ σ', Ct K mg ρ σd' G σ' H → Q σ' H | none => False)
abbrev PGd (X : Cx) (t : Expr) (g : DG) : Prop := PG X t (tG X.K X.mg g)
theorem _root_.L2.PG.le {e : Expr} {t t' : TG} (h : PG X e t) (k : ∀ v σ H Q, t' v σ H Q → t v σ H Q) : PG X e t' := ⟨fun pins s σ H v u Q I r q => h.run pins s σ H v u Q I r (k v σ H Q q)⟩
theorem _root_.L2.PGs.le {e : List Expr} {t t' : TGs} (h : PGs X e t) (k : ∀ v σ H Q, t' v σ H Q → t v σ H Q) : PGs X e t' := ⟨fun pins s σ H v u Q I r q => h.run pins s σ H v u Q I r (k v σ H Q q)⟩
def gN (i : Nat) : DG := fun d σ => some (σ.set i (some d))
abbrev DGs := List D → PEnv → Option PEnv
def gsNil : DGs := fun ds σ => match ds with | [] => some σ | _ => none
def gsCons (g : DG) (r : DGs) : DGs := fun ds σ => match ds with
  | d :: ds => match g d σ with
    | some σ1 => r ds σ1
    | none => none
  | [] => none
def gT (r : DGs) : DG := fun d σ => match d with | .tup ds => r ds σ | _ => none
def tGs (K : PySem.W.Frag) (mg : MG) (g : DGs) : TGs := fun vs σ H Q => ∃ ρ σd G ds, Ct K mg ρ σd G σ H ∧ RDs K ρ H ds vs ∧ (match g ds σd with | some σd' => ∀ σ', Ct K mg ρ σd' G σ' H → Q σ' H | none => False)
theorem le_gname {i : Nat} {x : Str} {pos : Pos} (nd : X.N.Nodup) (hN : X.N[i]? = some x := by rfl) (hl : Loc X.env.scope x := by first | exact Or.inl rfl | exact Or.inr rfl) (hf : X.fn x = true ∨ X.env.scope.names.lookup x = some .local := by first | exact .inl rfl | exact .inr rfl) : PGd X (.Name x pos) (gN i) :=
  (pg_name nd hN hl hf).le fun v σ H Q ⟨ρ, σd, G, d, c, r, h⟩ => h _ (c.set r)
abbrev PGsd (X : Cx) (ts : List Expr) (g : DGs) (n : Nat) : Prop := PGs X ts (tGs X.K X.mg g) ∧ ∀ ds σ σ', g ds σ = some σ' → ds.length = n
theorem le_gnil : PGsd X [] gsNil 0 := by
  refine ⟨pgs_nil.le fun vs σ H Q ⟨ρ, σd, G, ds, c, r, h⟩ => ?_, fun ds σ σ' h => ?_⟩
  · cases ds with
    | nil => cases (show _ = _ from r); exact ⟨rfl, h _ c⟩
    | cons d ds => exact h.elim
  · cases ds with
    | nil => rfl
    | cons d ds => cases h
theorem le_gcons {t : Expr} {ts : List Expr} {g : DG} {gs : DGs} {n : Nat} (h1 : PGd X t g) (h2 : PGsd X ts gs n) (hs : (assignEach (t :: ts) X.env).map (·.2) = assign t X.env :: (assignEach ts X.env).map (·.2) := by rfl) : PGsd X (t :: ts) (gsCons g gs) (n + 1) := by
  refine ⟨(pgs_cons h1 h2.1 hs).le fun vs σ H Q ⟨ρ, σd, G, ds, c, r, h⟩ => ?_, fun ds σ σ' h => ?_⟩
  · cases ds with
    | nil => exact h.elim
    | cons d ds =>
      obtain ⟨v, r', e, r1, r2⟩ := r
      subst e
      refine ⟨v, r', rfl, ρ, σd, G, d, c, r1, ?_⟩
      simp only [gsCons] at h
      cases q : g d σd with
      | none => simp only [q] at h
      | some σ1 =>
        simp only [q] at h
        exact fun σ' c' => ⟨ρ, σ1, G, ds, c', r2, h⟩
  · cases ds with
    | nil => cases h
    | cons d ds =>
      simp only [gsCons] at h
      cases q : g d σ with
      | none => simp only [q] at h; cases h
      | some σ1 => simp only [q] at h; rw [List.length_cons, h2.2 _ _ _ h]
theorem le_gtup {es : List Expr} {x1} {pos : Pos} {gs : DGs} {n : Nat} (hc : X.calm = true) (h : PGsd X es gs n) (hn : (assignEach es X.env).length = n := by rfl) (hst : (assignEach es X.env).findIdx? (·.1) = none := by rfl) : PGd X (.Tuple es x1 pos) (gT gs) := by
  refine (pg_tup hc h.1 hn hst).le fun v σ H Q ⟨ρ, σd, G, d, c, r, q⟩ => ?_
  cases d with
  | tup ds =>
    obtain ⟨a, vs, e, t, r⟩ := r
    refine ⟨a, vs, e, t.sq, ?_, ρ, σd, G, ds, c, r, q⟩
    simp only [gT] at q
    cases z : gs ds σd with
    | none => simp only [z] at q
    | some σ1 => rw [← r.length]; exact h.2 _ _ _ z
  | _ => exact q.elim
def asgR (g : DG) (d : D) (σ : PEnv) (G : GS) : RSt := match g d σ with | some σ' => .nx σ' G | none => .bad
def sAsgG (g : DG) (e : DE) : DS := fun σ G => bindS (e σ G) σ fun d G1 => asgR g d σ G1
theorem le_asgG {tg e : Expr} {g : DG} {d : DE} (he : PEd X W e d) (hg : PGd X tg g) (hs : swapsWithSole [tg] e pos.line X.env = pure false := by rfl) (hw : swappedStores [tg] e X.env = pure none := by rfl)
    (h1 : (assignEach [tg] X.env).map (·.2) = [assign tg X.env] := by rfl) : PSd X W (.Assign [tg] e pos) (sAsgG g d) := by
  refine (ps_asg he hg hs hw h1).le fun Dn σ H ⟨ρ, σd, G, c, h⟩ => ⟨ρ, σd, G, c, (SPst.bind c h).mono fun _ _ _ _ _ _ _ _ _ ⟨ρ1, G1, a, e1, c1, d1, h1⟩ => ?_⟩
  refine ⟨ρ1, σd, G1, a, c1, d1, ?_⟩
  unfold asgR at h1
  cases q : g a σd with
  | none => rw [q] at h1; exact h1.elim
  | some σ1 => rw [q] at h1; exact fun σ' c' => h1 _ _ _ (.refl _ _) c'
theorem le_set {i : Nat} {x : Str} {d : DE} {pos' : Pos} (nd : X.N.Nodup) (he : PEd X W e d) (hN : X.N[i]? = some x := by rfl) (hl : Loc X.env.scope x := by first | exact Or.inl rfl | exact Or.inr rfl) (hs : swapsWith e (some (.Name x pos')) pos.line X.env = pure false := by rfl) (hf : X.fn x = true ∨ X.env.scope.names.lookup x = some .local := by first | exact .inl rfl | exact .inr rfl) :
    PSd X W (.Assign [.Name x pos'] e pos) (sAsg i d) :=
  (ps_set nd hN hl he hs hf).le fun Dn σ H ⟨ρ, σd, G, c, h⟩ => ⟨ρ, σd, G, c, (SPst.bind c h).mono fun _ _ _ _ _ _ _ _ _ ⟨ρ1, G1, a, e1, c1, d1, h1⟩ => h1 _ _ _ (.refl _ _) (c1.set d1)⟩
/-- x op= e -/
def sAug (i : Nat) (f : D → D → GS → RE D) (e : DE) : DS := fun σ G => bindS (eVar i σ G) σ fun x _ => bindS (e σ G) σ fun y G1 => bindS (f x y G1) σ fun z G2 => .nx (σ.set i (some z)) G2
theorem le_aug {i : Nat} {x : Str} {d : DE} {pos' : Pos} {op : Operator} {r : R2} {f : D → D → GS → RE D} (nd : X.N.Nodup) (ho : OpR X (inplaceOp op) r) (hf : Srv2 X r f) (he : PEd X W e d) (hN : X.N[i]? = some x := by rfl) (hl : Loc X.env.scope x := by first | exact Or.inl rfl | exact Or.inr rfl) (hk : X.fn x = true ∨ X.env.scope.names.lookup x = some .local := by first | exact .inl rfl | exact .inr rfl) :
    PSd X W (.AugAssign (.Name x pos') op e pos) (sAug i f d) := by
  refine (ps_aug nd hN hl he (ti := r) ho hk).le fun Dn σ H ⟨ρ, σd, G, c, h⟩ => ?_
  unfold sAug eVar at h
  cases q : σd[i]? with
  | none => simp only [q] at h; exact h.elim
  | some o =>
    cases o with
    | none => simp only [q] at h; exact h.elim
    | some dx =>
      simp only [q, bindS_ok] at h
      obtain ⟨v, h1, h2⟩ := c.at_ i dx q
      refine ⟨v, h1, ρ, σd, G, c, (SPst.bind c h).mono fun ρ1 H1 G1 a y e1 s1 r1 _ ⟨ρ2, G2, a2, e2, c2, d2, q2⟩ => ?_⟩
      refine hf (WA W σ) ρ2 G2 H1 v y dx a2 _ c2.rs (h2.ext e2) d2 ((SPst.bind c2 q2).mono fun _ _ _ _ _ _ _ _ _ ⟨ρ3, G3, a3, e3, c3, d3, q3⟩ => ?_)
      exact q3 _ _ _ (.refl _ _) (c3.set d3)
/-- o[i] = e -/
def setI (o i v : D) (σ : PEnv) (G : GS) : RSt := match o, i with
  | .ref n, .int k => match G[n]? with
    | some (.lst ds) => match ixN ds.length k with
      | some j => .nx σ (G.set n (.lst (ds.set j v)))
      | none => .bad
    | _ => .bad
  | _, _ => .bad
def sSetI (o i v : DE) : DS := fun σ G => bindS (v σ G) σ fun dv G1 => bindS (o σ G1) σ fun d_o G2 => bindS (i σ G2) σ fun di G3 => setI d_o di dv σ G3
theorem le_setI {o i : Expr} {d_o di dv : DE} {pos' : Pos} (he : PEd X W e dv) (ho : PEd X W o d_o) (hi : PEd X W i di)
    (ha : ∀ v, assign (.Subscript o i pos') X.env v = (do
      let ov ← holding [v] (eval o X.env)
      let iv ← holding [v, ov] (eval i X.env)
      standAt pos'
      holding [v, ov, iv] (setItem ov iv v)
      release [v, ov, iv] []) := by intro _; rfl)
    (hs : swapsWithSole [.Subscript o i pos'] e pos.line X.env = pure false := by rfl) (hw : swappedStores [.Subscript o i pos'] e X.env = pure none := by rfl)
    (h1 : (assignEach [.Subscript o i pos'] X.env).map (·.2) = [assign (.Subscript o i pos') X.env] := by rfl) : PSd X W (.Assign [.Subscript o i pos'] e pos) (sSetI d_o di dv) := by
  refine (ps_asg he (pg_sub ho hi set_list ha) hs hw h1).le fun Dn σ H ⟨ρ, σd, G, c, h⟩ => ⟨ρ, σd, G, c, (SPst.bind c h).mono fun _ _ _ _ _ _ _ _ _ ⟨ρ1, G1, a1, e1, c1, d1, q1⟩ => ?_⟩
  refine ⟨ρ1, σd, G1, c1, (SPst.bind c1 q1).mono fun _ _ _ _ _ _ _ _ _ ⟨ρ2, G2, a2, e2, c2, d2, q2⟩ => ?_⟩
  refine ⟨ρ2, σd, G2, c2, (SPst.bind c2 q2).mono fun _ H3 _ _ _ _ _ _ _ ⟨ρ3, G3, a3, e3, c3, d3, q3⟩ => ?_⟩
  have d2' := d2.ext e3
  have d1' := (d1.ext e2).ext e3
  cases a2 with
  | ref n =>
    cases a3 with
    | int k =>
      simp only [setI] at q3
      obtain ⟨p, hp, ev⟩ := d2'
      subst ev
      cases (show _ = _ from d3)
      cases g : G3[n]? with
      | none => simp only [g] at q3; exact q3.elim
      | some ob =>
        cases ob with
        | ins _ _ => simp only [g] at q3; exact q3.elim
        | lst ds =>
          simp only [g] at q3
          obtain ⟨vs, hv, rv⟩ := c3.rs.at_ n p _ hp g
          cases ix : ixN ds.length k with
          | none => simp only [ix] at q3; exact q3.elim
          | some j =>
            simp only [ix] at q3
            refine ⟨p, vs, k, j, rfl, rfl, hv, by rw [← rv.length]; exact ix, ?_⟩
            obtain ⟨ex, rs⟩ := c3.rs.write (o := .lst (vs.set j _)) (ob := .lst (ds.set j a1)) hp fun ex => ⟨_, upd_same, RDs.set (d1'.ext ex) j (rv.ext ex)⟩
            exact q3 _ _ _ ex (c3.ext ex rs)
    | _ => exact q3.elim
  | _ => exact q3.elim

/-! ## for -/
def forL (g : DG) (body : DS) : List D → DS
  | [] => fun σ G => .nx σ G
  | d :: ds => fun σ G => match g d σ with
    | some σ1 => turnR (body σ1 G) (forL g body ds)
    | none => .bad
abbrev DI := PEnv → GS → RE (List D)
def Wlk (K : PySem.W.Frag) (mg : MG) (ρ : List Addr) (H : Hp) (ds : List D) (J : It) : Prop :=
  ∀ i ρ' G' H', Ext ρ H ρ' H' → RS K mg ρ' G' H' → (ds.length ≤ i → J.stop i H') ∧
    (∀ d, ds[i]? = some d → J.go i H' ∧ ∀ x H'', J.yld i H' x H'' → Ext ρ' H' ρ' H'' ∧ RS K mg ρ' G' H'' ∧ RD K ρ' H'' d x)
def tI (K : PySem.W.Frag) (mg : MG) (W : WX) (r : DI) : TI := fun σ H R => ∃ ρ σd G, Ct K mg ρ σd G σ H ∧ EP' K mg (Wlk K mg) (WA W σ) ρ H (r σd G) R
abbrev PId (X : Cx) (W : WX) (tg e : Expr) (r : DI) : Prop := PI X tg e (tI X.K X.mg W r)
theorem _root_.L2.PI.le {tg e : Expr} {t t' : TI} (h : PI X tg e t) (k : ∀ σ H Q, t' σ H Q → t σ H Q) : PI X tg e t' := ⟨fun pins s σ H R I q => h.run pins s σ H R I (k σ H R q)⟩
def sFor (g : DG) (it : DI) (body : DS) : DS := fun σ G => bindS (it σ G) σ fun ds G1 => forL g body ds σ G1
theorem SPst.turnN {K : PySem.W.Frag} {mg : MG} {W : WX} {ρ : List Addr} {H : Hp} {r : RSt} {b : DS} {Dn : Ends} {N : L2.St → Hp → Prop} (h : SPst K mg W ρ H (turnR r b) Dn)
    (k : ∀ ρ' H' σ' σd' G', Ext ρ H ρ' H' → Ct K mg ρ' σd' G' σ' H' → SPst K mg W ρ' H' (b σd' G') Dn → N σ' H') : SPst K mg W ρ H r { Dn with nx := N, ct := N, bk := Dn.nx } := by
  cases r with
  | nx σ G => exact fun ρ' H' σ' e c => k ρ' H' σ' σ G e c (SPst.deeper e h)
  | ret d G => exact h
  | brk σ G => exact h
  | cont σ G => exact fun ρ' H' σ' e c => k ρ' H' σ' σ G e c (SPst.deeper e h)
  | exc c fs σ G => exact h
  | bad => exact h
theorem le_for {tg it : Expr} {body : List Stmt} {g : DG} {di : DI} {db : DS} (hp : PassesOwn (model X.prog X.w) X.A X.env X.xe) (hc : X.calm = true) (hi : PId X W tg it di) (hg : PGd X tg g) (hb : PSsd X W body db)
    (hs : ∀ x, foldedSetIterable it X.env x = pure x := by intro _; rfl) : PSd X W (.For tg it body [] pos) (sFor g di db) := by
  refine (ps_for hp hc hi hg hb hs).le fun Dn σ H ⟨ρ, σd, G, c, h⟩ => ⟨ρ, σd, G, c, (SPst.bind c h).mono fun _ H1 _ _ J _ _ _ _ ⟨ρ1, G1, ds, e1, c1, w1, h1⟩ => ?_⟩
  refine ⟨fun i m σ H => m = ds.length - i ∧ i ≤ ds.length ∧ ∃ ρ σd G, Ext ρ1 H1 ρ H ∧ Ct X.K X.mg ρ σd G σ H ∧ SPst X.K X.mg W ρ H (forL g db (ds.drop i) σd G) Dn,
    ⟨ds.length, by simp, Nat.zero_le _, ρ1, σd, G1, .refl _ _, c1, h1⟩, ?_⟩
  rintro i m σ2 H2 ⟨rfl, hi, ρ2, σd2, G2, e2, c2, h2⟩
  obtain ⟨wstop, wgo⟩ := w1 i ρ2 G2 H2 e2 c2.rs
  by_cases hlt : i < ds.length
  · obtain ⟨go, yl⟩ := wgo ds[i] (by simp [hlt])
    rw [List.drop_eq_getElem_cons hlt] at h2
    simp only [forL] at h2
    refine .inr ⟨go, fun σ' H' => ∃ ρ σd G, Ext ρ1 H1 ρ H' ∧ Ct X.K X.mg ρ σd G σ' H' ∧ SPst X.K X.mg W ρ H' (forL g db (ds.drop (i + 1)) σd G) Dn, fun σ' H' q => ⟨ds.length - (i + 1), by omega, rfl, hlt, q⟩, fun x H' y => ?_⟩
    obtain ⟨e3, s3, r3⟩ := yl x H' y
    refine ⟨ρ2, σd2, G2, ds[i], c2.ext e3 s3, r3, ?_⟩
    cases q : g ds[i] σd2 with
    | none => simp only [q] at h2; exact h2.elim
    | some σ1 =>
      simp only [q] at h2
      refine fun σ' c' => ⟨ρ2, σ1, G2, c', SPst.turnN (SPst.deeper e3 h2) fun ρ' H' σ' σd' G' e c h => ⟨ρ', σd', G', (e2.trans e3).trans e, c, h⟩⟩
  · have e : i = ds.length := by omega
    subst e
    rw [List.drop_length] at h2
    exact .inl ⟨wstop (Nat.le_refl _), h2 _ _ _ (.refl _ _) c2⟩
/-- over a list or a tuple that stands still -/
def iSeqL (e : DE) : DI := fun σ G => bindE (e σ G) fun d G1 => match d with | .lst ds => .ok ds G1 | _ => .bad
def iSeqT (e : DE) : DI := fun σ G => bindE (e σ G) fun d G1 => match d with | .tup ds => .ok ds G1 | _ => .bad
theorem le_iL {tg e : Expr} {d : DE} (he : PEd X W e d) : PId X W tg e (iSeqL d) := by
  refine (pi_list he).le fun σ H R ⟨ρ, σd, G, c, h⟩ => ⟨ρ, σd, G, c, (EP'.bind h).mono fun _ H1 _ _ _ _ _ _ _ ⟨ρ1, G1, a, e1, s1, d1, _, h1⟩ => ?_⟩
  cases a with
  | lst ds =>
    obtain ⟨a, vs, ev, la, rv⟩ := d1
    have sq : ∀ {ρ' H'}, Ext ρ1 H1 ρ' H' → SqL X.K H' a vs := fun e => .of (e.keep _ _ la.1 la.2)
    refine ⟨a, ev, ⟨vs, .of la.1⟩, h1 ρ1 H1 _ (.refl _ _) s1 fun i ρ' G' H' e s => ⟨fun hl => ⟨vs, sq e, by rw [← rv.length]; exact hl⟩, fun d hd => ?_⟩⟩
    obtain ⟨v, hv, rd⟩ := rv.get hd
    refine ⟨⟨vs, v, sq e, hv⟩, fun x H'' ⟨eh, y⟩ => ?_⟩
    subst eh
    have := y vs (sq e)
    rw [hv] at this
    cases this
    exact ⟨.refl _ _, s, rd.ext e⟩
  | _ => exact h1.elim
theorem le_iT {tg e : Expr} {d : DE} (he : PEd X W e d) : PId X W tg e (iSeqT d) := by
  refine (pi_tup he).le fun σ H R ⟨ρ, σd, G, c, h⟩ => ⟨ρ, σd, G, c, (EP'.bind h).mono fun _ H1 _ _ _ _ _ _ _ ⟨ρ1, G1, a, e1, s1, d1, _, h1⟩ => ?_⟩
  cases a with
  | tup ds =>
    obtain ⟨a, vs, ev, la, rv⟩ := d1
    refine ⟨a, ev, ⟨vs, la.sq⟩, h1 ρ1 H1 _ (.refl _ _) s1 fun i ρ' G' H' e s => ⟨fun hl => ⟨vs, (la.ext e).sq, by rw [← rv.length]; exact hl⟩, fun d hd => ?_⟩⟩
    obtain ⟨v, hv, rd⟩ := rv.get hd
    refine ⟨⟨vs, v, (la.ext e).sq, hv⟩, fun x H'' ⟨eh, y⟩ => ?_⟩
    subst eh
    have := y vs (la.ext e).sq
    rw [hv] at this
    cases this
    exact ⟨.refl _ _, s, rd.ext e⟩
  | _ => exact h1.elim
def rngD (lo : Int) (n : Nat) : List D := (List.range n).map fun (k : Nat) => .int (lo + (k : Int))
/-- closed to the kernel's unfolding: it would count up to 2 ^ 62 -/
theorem i62_ex : ∃ f : Int → Bool, ∀ i, f i = (decide (-(2 ^ 62) ≤ i) && decide (i < 2 ^ 62)) := ⟨_, fun _ => rfl⟩
noncomputable def i62 : Int → Bool := Classical.choose i62_ex
theorem i62_eq (i : Int) : i62 i = (decide (-(2 ^ 62) ≤ i) && decide (i < 2 ^ 62)) := Classical.choose_spec i62_ex i
noncomputable def rng1 (ds : List D) (G : GS) : RE (List D) := match ds with
  | [.int j] => if i62 j = true then .ok (rngD 0 j.toNat) G else .bad
  | _ => .bad
noncomputable def rng2 (ds : List D) (G : GS) : RE (List D) := match ds with
  | [.int i, .int j] => if (i62 i && i62 j) = true then .ok (rngD i (j - i).toNat) G else .bad
  | _ => .bad
noncomputable def iRg1 (a : DA) : DI := fun σ G => bindE (a σ G) rng1
noncomputable def iRg2 (a : DA) : DI := fun σ G => bindE (a σ G) rng2
theorem wlk_rng {K : PySem.W.Frag} {mg : MG} {ρ : List Addr} {H : Hp} {lo : Int} {n : Nat} : Wlk K mg ρ H (rngD lo n) (Itr lo n) := by
  intro i ρ' G' H' e s
  refine ⟨fun hl => by have z : n ≤ i := by { simpa [rngD] using hl }; exact z, fun d hd => ?_⟩
  have hi : i < n := by
    have := (List.getElem?_eq_some_iff.mp hd).1
    simpa [rngD] using this
  refine ⟨hi, fun x H'' ⟨eh, ex⟩ => ?_⟩
  subst eh ex
  refine ⟨.refl _ _, s, ?_⟩
  simp [rngD, hi] at hd
  subst hd
  rfl
theorem le_rg1 {tg a : Expr} {da : DA} {p pos : Pos} (hg : Gl X "range") (hm : X.mg "range" = none) (ha : PAd X W [a] da) (hs : starEach [a] X.env = [(false, eval a X.env)] := by rfl) : PId X W tg (.Call (.Name "range" p) [a] [] pos) (iRg1 da) := by
  refine (pi_range1 hg hm ha hs).le fun σ H R ⟨ρ, σd, G, c, h⟩ => ⟨ρ, σd, G, c, (EP'.bind h).mono fun _ H1 _ _ vs _ _ _ _ ⟨ρ1, G1, ds, e1, s1, d1, _, h1⟩ => ?_⟩
  unfold rng1 at h1
  split at h1
  · rename_i j _
    obtain ⟨v, r, ev, dv, dr⟩ := d1
    cases (show _ = _ from dv); cases (show _ = _ from dr)
    by_cases q : i62 j = true
    · rw [if_pos q] at h1
      simp only [i62_eq, Bool.and_eq_true, decide_eq_true_eq] at q
      exact ⟨j, ev, q.1, q.2, h1 ρ1 H1 _ (.refl _ _) s1 wlk_rng⟩
    · rw [if_neg q] at h1; exact h1.elim
  · exact h1.elim
theorem le_rg2 {tg a b : Expr} {da : DA} {p pos : Pos} (hg : Gl X "range") (hm : X.mg "range" = none) (ha : PAd X W [a, b] da) (hs : starEach [a, b] X.env = [(false, eval a X.env), (false, eval b X.env)] := by rfl) (hs2 : starEach [b] X.env = [(false, eval b X.env)] := by rfl) :
    PId X W tg (.Call (.Name "range" p) [a, b] [] pos) (iRg2 da) := by
  refine (pi_range2 hg hm ha hs hs2).le fun σ H R ⟨ρ, σd, G, c, h⟩ => ⟨ρ, σd, G, c, (EP'.bind h).mono fun _ H1 _ _ vs _ _ _ _ ⟨ρ1, G1, ds, e1, s1, d1, _, h1⟩ => ?_⟩
  unfold rng2 at h1
  split at h1
  · rename_i i j _
    obtain ⟨v, r, ev, dv, v2, r2, er, dv2, dr⟩ := d1
    cases (show _ = _ from dv); cases (show _ = _ from dv2); cases (show _ = _ from dr)
    subst er
    by_cases q : (i62 i && i62 j) = true
    · rw [if_pos q] at h1
      simp only [i62_eq, Bool.and_eq_true, decide_eq_true_eq] at q
      exact ⟨i, j, ev, ⟨q.1.1, q.1.2, q.2.1, q.2.2⟩, h1 ρ1 H1 _ (.refl _ _) s1 wlk_rng⟩
    · rw [if_neg q] at h1; exact h1.elim
  · exact h1.elim
end
end Dl
namespace Dl
open PySem L2

/-! ## what leaves a def -/
mutual
def subD (f : Nat → Option D) : D → Option D
  | .non => some .non
  | .bl b => some (.bl b)
  | .int i => some (.int i)
  | .str s => some (.str s)
  | .tup ds => (subDs f ds).map .tup
  | .lst ds => (subDs f ds).map .lst
  | .dic ks ds => (subDs f ds).map (.dic ks)
  | .ref n => f n
  | .scr ns => some (.scr ns)
def subDs (f : Nat → Option D) : List D → Option (List D)
  | [] => some []
  | d :: ds => match subD f d, subDs f ds with
    | some a, some b => some (a :: b)
    | _, _ => none
end
mutual
def clsD (n : Nat) : D → Bool
  | .non => true
  | .bl _ => true
  | .int _ => true
  | .str _ => true
  | .tup ds => clsDs n ds
  | .lst ds => clsDs n ds
  | .dic _ ds => clsDs n ds
  | .ref m => decide (m < n)
  | .scr _ => true
def clsDs (n : Nat) : List D → Bool
  | [] => true
  | d :: ds => clsD n d && clsDs n ds
end
mutual
def beqD : D → D → Bool
  | .non, .non => true
  | .bl a, .bl b => decide (a = b)
  | .int a, .int b => decide (a = b)
  | .str a, .str b => decide (a = b)
  | .tup a, .tup b => beqDs a b
  | .lst a, .lst b => beqDs a b
  | .dic k a, .dic l b => decide (k = l) && beqDs a b
  | .ref a, .ref b => decide (a = b)
  | .scr a, .scr b => decide (a = b)
  | _, _ => false
def beqDs : List D → List D → Bool
  | [], [] => true
  | a :: as, b :: bs => beqD a b && beqDs as bs
  | _, _ => false
end
mutual
theorem beqD_eq : ∀ {a b : D}, beqD a b = true → a = b
  | .non, .non, _ => rfl
  | .bl a, .bl b, h => by simp [beqD] at h; rw [h]
  | .int a, .int b, h => by simp [beqD] at h; rw [h]
  | .str a, .str b, h => by simp [beqD] at h; rw [h]
  | .tup a, .tup b, h => by simp only [beqD] at h; rw [beqDs_eq h]
  | .lst a, .lst b, h => by simp only [beqD] at h; rw [beqDs_eq h]
  | .dic k a, .dic l b, h => by simp only [beqD, Bool.and_eq_true, decide_eq_true_eq] at h; rw [h.1, beqDs_eq h.2]
  | .ref a, .ref b, h => by simp [beqD] at h; rw [h]
  | .scr a, .scr b, h => by simp [beqD] at h; rw [h]
  | .scr _, .non, h | .scr _, .bl _, h | .scr _, .int _, h | .scr _, .str _, h | .scr _, .tup _, h | .scr _, .lst _, h | .scr _, .dic _ _, h | .scr _, .ref _, h => by simp [beqD] at h
  | .non, .scr _, h | .bl _, .scr _, h | .int _, .scr _, h | .str _, .scr _, h | .tup _, .scr _, h | .lst _, .scr _, h | .dic _ _, .scr _, h | .ref _, .scr _, h => by simp [beqD] at h
  | .non, .bl _, h | .non, .int _, h | .non, .str _, h | .non, .tup _, h | .non, .lst _, h | .non, .dic _ _, h | .non, .ref _, h => by simp [beqD] at h
  | .bl _, .non, h | .bl _, .int _, h | .bl _, .str _, h | .bl _, .tup _, h | .bl _, .lst _, h | .bl _, .dic _ _, h | .bl _, .ref _, h => by simp [beqD] at h
  | .int _, .non, h | .int _, .bl _, h | .int _, .str _, h | .int _, .tup _, h | .int _, .lst _, h | .int _, .dic _ _, h | .int _, .ref _, h => by simp [beqD] at h
  | .str _, .non, h | .str _, .bl _, h | .str _, .int _, h | .str _, .tup _, h | .str _, .lst _, h | .str _, .dic _ _, h | .str _, .ref _, h => by simp [beqD] at h
  | .tup _, .non, h | .tup _, .bl _, h | .tup _, .int _, h | .tup _, .str _, h | .tup _, .lst _, h | .tup _, .dic _ _, h | .tup _, .ref _, h => by simp [beqD] at h
  | .lst _, .non, h | .lst _, .bl _, h | .lst _, .int _, h | .lst _, .str _, h | .lst _, .tup _, h | .lst _, .dic _ _, h | .lst _, .ref _, h => by simp [beqD] at h
  | .dic _ _, .non, h | .dic _ _, .bl _, h | .dic _ _, .int _, h | .dic _ _, .str _, h | .dic _ _, .tup _, h | .dic _ _, .lst _, h | .dic _ _, .ref _, h => by simp [beqD] at h
  | .ref _, .non, h | .ref _, .bl _, h | .ref _, .int _, h | .ref _, .str _, h | .ref _, .tup _, h | .ref _, .lst _, h | .ref _, .dic _ _, h => by simp [beqD] at h
theorem beqDs_eq : ∀ {a b : List D}, beqDs a b = true → a = b
  | [], [], _ => rfl
  | a :: as, b :: bs, h => by
    simp only [beqDs, Bool.and_eq_true] at h
    rw [beqD_eq h.1, beqDs_eq h.2]
  | [], _ :: _, h => by simp [beqDs] at h
  | _ :: _, [], h => by simp [beqDs] at h
end
mutual
theorem beqD_refl : ∀ (a : D), beqD a a = true
  | .non => rfl
  | .bl _ => by simp [beqD]
  | .int _ => by simp [beqD]
  | .str _ => by simp [beqD]
  | .tup a => by simp only [beqD]; exact beqDs_refl a
  | .lst a => by simp only [beqD]; exact beqDs_refl a
  | .dic k a => by simp only [beqD, decide_true, Bool.true_and]; exact beqDs_refl a
  | .ref _ => by simp [beqD]
  | .scr _ => by simp [beqD]
theorem beqDs_refl : ∀ (a : List D), beqDs a a = true
  | [] => rfl
  | a :: as => by simp only [beqDs, beqD_refl a, beqDs_refl as, Bool.true_and]
end
def fldD (fs : List (Str × D)) : List D := fs.map (·.2)
def beqO : Ob → Ob → Bool
  | .lst a, .lst b => beqDs a b
  | .ins c a, .ins d b => decide (c = d) && decide (a.map (·.1) = b.map (·.1)) && beqDs (a.map (·.2)) (b.map (·.2))
  | _, _ => false
theorem zip_eq : ∀ {a b : List (Str × D)}, a.map (·.1) = b.map (·.1) → a.map (·.2) = b.map (·.2) → a = b
  | [], [], _, _ => rfl
  | (k, d) :: a, (l, e) :: b, h, h' => by
    simp only [List.map_cons, List.cons.injEq] at h h'
    rw [h.1, h'.1, zip_eq h.2 h'.2]
  | [], _ :: _, h, _ => by simp at h
  | _ :: _, [], h, _ => by simp at h
theorem beqO_eq : ∀ {a b : Ob}, beqO a b = true → a = b
  | .lst a, .lst b, h => by simp only [beqO] at h; rw [beqDs_eq h]
  | .ins c a, .ins d b, h => by
    simp only [beqO, Bool.and_eq_true, decide_eq_true_eq] at h
    rw [h.1.1, zip_eq h.1.2 (beqDs_eq h.2)]
  | .lst _, .ins _ _, h => by simp [beqO] at h
  | .ins _ _, .lst _, h => by simp [beqO] at h
theorem beqO_refl : ∀ (a : Ob), beqO a a = true
  | .lst a => by simp only [beqO]; exact beqDs_refl a
  | .ins c a => by simp only [beqO, decide_true, Bool.true_and]; exact beqDs_refl _
def beqG : GS → GS → Bool
  | [], [] => true
  | a :: as, b :: bs => beqO a b && beqG as bs
  | _, _ => false
theorem beqG_eq : ∀ {a b : GS}, beqG a b = true → a = b
  | [], [], _ => rfl
  | a :: as, b :: bs, h => by
    simp only [beqG, Bool.and_eq_true] at h
    rw [beqO_eq h.1, beqG_eq h.2]
  | [], _ :: _, h => by simp [beqG] at h
  | _ :: _, [], h => by simp [beqG] at h
theorem beqG_refl : ∀ (a : GS), beqG a a = true
  | [] => rfl
  | a :: as => by simp only [beqG, beqO_refl a, beqG_refl as, Bool.true_and]
def clsO (n : Nat) : Ob → Bool
  | .lst ds => clsDs n ds
  | .ins _ fs => clsDs n (fs.map (·.2))
def clsG (n : Nat) (G : GS) : Bool := G.all (clsO n)
def sealR : Nat → Nat → GS → Nat → Option D
  | 0, _, _, _ => none
  | k + 1, n, G, m => if m < n then some (.ref m) else match G[m]? with
    | some (.lst ds) => (subDs (sealR k n G) ds).map .lst
    | _ => none
/-- what a def (entered with G) hands back: lists of its own are closed, its own objects forgotten, where that can be done -/
def finish {α : Type} (sub : (Nat → Option D) → α → Option α) (G : GS) (d : α) (G' : GS) (k : α → GS → RE β) : RE β :=
  if G'.length = G.length then k d G' else
  if (beqG (G'.take G.length) G || clsG G.length (G'.take G.length)) = true then match sub (sealR 6 G.length G') d with
    | some d' => k d' (G'.take G.length)
    | none => k d G'
  else k d G'
def subF (f : Nat → Option D) (fs : List (Str × D)) : Option (List (Str × D)) := (subDs f (fs.map (·.2))).map fun ds => (fs.map (·.1)).zip ds
def runF (N : Nat) (b : DS) : DF := fun ds G => match b (ds.map some ++ List.replicate (N - ds.length) none) G with
  | .nx _ G' => finish subD G .non G' .ok
  | .ret d G' => finish subD G d G' .ok
  | .exc c fs _ G' => finish subF G fs G' (.exc c)
  | _ => .bad

section
variable {K : PySem.W.Frag} {mg : MG} {ρ ρ' : List Addr} {H H' : Hp} {G G' : GS}
mutual
theorem cls_of : ∀ {d : D} {v : V}, RD K ρ H d v → clsD ρ.length d = true
  | .non, _, _ => rfl
  | .bl _, _, _ => rfl
  | .int _, _, _ => rfl
  | .str _, _, _ => rfl
  | .tup _, _, ⟨_, _, _, _, h⟩ => by simp only [clsD]; exact clss_of h
  | .lst _, _, ⟨_, _, _, _, h⟩ => by simp only [clsD]; exact clss_of h
  | .dic _ _, _, ⟨_, _, _, _, _, _, h⟩ => by simp only [clsD]; exact clss_of h
  | .ref n, _, ⟨a, h, _⟩ => by simp only [clsD, decide_eq_true_eq]; exact (List.getElem?_eq_some_iff.mp h).1
  | .scr _, _, _ => rfl
theorem clss_of : ∀ {ds : List D} {vs : List V}, RDs K ρ H ds vs → clsDs ρ.length ds = true
  | [], _, _ => rfl
  | _ :: _, _, ⟨_, _, _, h1, h2⟩ => by simp only [clsDs, cls_of h1, clss_of h2, Bool.true_and]
end
theorem LstAt.cut {n : Nat} {a : Addr} {vs : List V} (h : LstAt K ρ H a vs) : LstAt K (ρ.take n) H a vs := by
  rcases h with ⟨h, q⟩ | h
  · exact .inl ⟨h, fun z => q (List.mem_of_mem_take z)⟩
  · exact .inr h
theorem TupAt.cut {n : Nat} {a : Addr} {vs : List V} (h : TupAt K ρ H a vs) : TupAt K (ρ.take n) H a vs := by
  rcases h with ⟨h, q⟩ | h
  · exact .inl ⟨h, fun z => q (List.mem_of_mem_take z)⟩
  · exact .inr h
mutual
theorem RD.sub {n : Nat} {f : Nat → Option D} (hf : ∀ m d v, f m = some d → RD K ρ H (.ref m) v → RD K (ρ.take n) H d v) : ∀ {d d' : D} {v : V}, subD f d = some d' → RD K ρ H d v → RD K (ρ.take n) H d' v
  | .non, _, _, e, h => by simp only [subD, Option.some.injEq] at e; subst e; exact h
  | .bl _, _, _, e, h => by simp only [subD, Option.some.injEq] at e; subst e; exact h
  | .int _, _, _, e, h => by simp only [subD, Option.some.injEq] at e; subst e; exact h
  | .str _, _, _, e, h => by simp only [subD, Option.some.injEq] at e; subst e; exact h
  | .tup ds, _, _, e, ⟨a, vs, h1, h2, h3⟩ => by
    simp only [subD, Option.map_eq_some_iff] at e
    obtain ⟨es, e1, rfl⟩ := e
    exact ⟨a, vs, h1, h2.cut, RDs.sub hf e1 h3⟩
  | .lst ds, _, _, e, ⟨a, vs, h1, h2, h3⟩ => by
    simp only [subD, Option.map_eq_some_iff] at e
    obtain ⟨es, e1, rfl⟩ := e
    exact ⟨a, vs, h1, ⟨h2.1, fun z => h2.2 (List.mem_of_mem_take z)⟩, RDs.sub hf e1 h3⟩
  | .dic ks ds, _, _, e, ⟨a, kvs, h1, h2, h3, h4, h5⟩ => by
    simp only [subD, Option.map_eq_some_iff] at e
    obtain ⟨es, e1, rfl⟩ := e
    exact ⟨a, kvs, h1, h2, fun z => h3 (List.mem_of_mem_take z), h4, RDs.sub hf e1 h5⟩
  | .ref m, _, _, e, h => hf m _ _ (by simpa only [subD] using e) h
  | .scr _, _, _, e, ⟨a, h1, h2⟩ => by simp only [subD, Option.some.injEq] at e; subst e; exact ⟨a, h1, h2.cut⟩
theorem RDs.sub {n : Nat} {f : Nat → Option D} (hf : ∀ m d v, f m = some d → RD K ρ H (.ref m) v → RD K (ρ.take n) H d v) : ∀ {ds ds' : List D} {vs : List V}, subDs f ds = some ds' → RDs K ρ H ds vs → RDs K (ρ.take n) H ds' vs
  | [], _, _, e, h => by simp only [subDs, Option.some.injEq] at e; subst e; exact h
  | d :: ds, _, _, e, ⟨v, r, h1, h2, h3⟩ => by
    simp only [subDs] at e
    cases e1 : subD f d with
    | none => simp [e1] at e
    | some a =>
      cases e2 : subDs f ds with
      | none => simp [e1, e2] at e
      | some b =>
        simp only [e1, e2, Option.some.injEq] at e
        subst e
        exact ⟨v, r, h1, RD.sub hf e1 h2, RDs.sub hf e2 h3⟩
end
mutual
theorem RD.cut {n : Nat} : ∀ {d : D} {v : V}, clsD n d = true → RD K ρ H d v → RD K (ρ.take n) H d v
  | .non, _, _, h => h
  | .bl _, _, _, h => h
  | .int _, _, _, h => h
  | .str _, _, _, h => h
  | .tup ds, _, e, ⟨a, vs, h1, h2, h3⟩ => ⟨a, vs, h1, h2.cut, RDs.cut (by simpa only [clsD] using e) h3⟩
  | .lst ds, _, e, ⟨a, vs, h1, h2, h3⟩ => ⟨a, vs, h1, ⟨h2.1, fun z => h2.2 (List.mem_of_mem_take z)⟩, RDs.cut (by simpa only [clsD] using e) h3⟩
  | .dic ks ds, _, e, ⟨a, kvs, h1, h2, h3, h4, h5⟩ => ⟨a, kvs, h1, h2, fun z => h3 (List.mem_of_mem_take z), h4, RDs.cut (by simpa only [clsD] using e) h5⟩
  | .ref m, _, e, ⟨a, h1, h2⟩ => by
    simp only [clsD, decide_eq_true_eq] at e
    exact ⟨a, by rw [List.getElem?_take_of_lt e]; exact h1, h2⟩
  | .scr _, _, _, ⟨a, h1, h2⟩ => ⟨a, h1, h2.cut⟩
theorem RDs.cut {n : Nat} : ∀ {ds : List D} {vs : List V}, clsDs n ds = true → RDs K ρ H ds vs → RDs K (ρ.take n) H ds vs
  | [], _, _, h => h
  | d :: ds, _, e, ⟨v, r, h1, h2, h3⟩ => by
    simp only [clsDs, Bool.and_eq_true] at e
    exact ⟨v, r, h1, RD.cut e.1 h2, RDs.cut e.2 h3⟩
end
theorem sealR_ok (s : RS K mg ρ G H) (n : Nat) : ∀ (k m : Nat) (d : D) (v : V), sealR k n G m = some d → RD K ρ H (.ref m) v → RD K (ρ.take n) H d v
  | 0, _, _, _, e, _ => by simp [sealR] at e
  | k + 1, m, d, v, e, ⟨a, h1, h2⟩ => by
    simp only [sealR] at e
    by_cases hm : m < n
    · rw [if_pos hm] at e
      cases e
      exact ⟨a, by rw [List.getElem?_take_of_lt hm]; exact h1, h2⟩
    · rw [if_neg hm] at e
      cases g : G[m]? with
      | none => simp [g] at e
      | some ob =>
        cases ob with
        | ins _ _ => simp [g] at e
        | lst ds =>
          simp only [g, Option.map_eq_some_iff] at e
          obtain ⟨es, e1, rfl⟩ := e
          obtain ⟨vs, hv, rv⟩ := s.at_ m a _ h1 g
          refine ⟨a, vs, h2, ⟨hv, fun z => ?_⟩, RDs.sub (fun m d v q r => sealR_ok s n k m d v q r) e1 rv⟩
          obtain ⟨i, hi, ei⟩ := List.mem_iff_getElem.mp z
          have hin : i < n := Nat.lt_of_lt_of_le hi (by rw [List.length_take]; exact Nat.min_le_left _ _)
          have : ρ[i]? = some a := by
            rw [← ei]
            rw [List.getElem_take]
            exact List.getElem?_eq_getElem _
          have := nd_ix s.nd this h1
          omega
theorem RS.cut (s : RS K mg ρ G H) {n : Nat} (h : ∀ i ob, i < n → G[i]? = some ob → clsO n ob = true) : RS K mg (ρ.take n) (G.take n) H := by
  refine ⟨s.nd.sublist (List.take_sublist _ _), by rw [List.length_take, List.length_take, s.len], fun i a ob h1 h2 => ?_⟩
  have hi : i < n := by
    have := (List.getElem?_eq_some_iff.mp h1).1
    rw [List.length_take] at this
    omega
  rw [List.getElem?_take_of_lt hi] at h1 h2
  have c := h i ob hi h2
  have r := s.at_ i a ob h1 h2
  cases ob with
  | lst ds => obtain ⟨vs, q, r⟩ := r; exact ⟨vs, q, RDs.cut c r⟩
  | ins _ fs => obtain ⟨C, dx, fvs, g, q, k, r⟩ := r; exact ⟨C, dx, fvs, g, q, k, RDs.cut c r⟩
theorem RS.clsd (s : RS K mg ρ G H) {i : Nat} {ob : Ob} (h : G[i]? = some ob) : clsO ρ.length ob = true := by
  obtain ⟨a, ha, r⟩ := s.get h
  cases ob with
  | lst ds => obtain ⟨vs, q, r⟩ := r; exact clss_of r
  | ins _ fs => obtain ⟨C, dx, fvs, g, q, k, r⟩ := r; exact clss_of r
/-- forgetting what is behind -/
theorem cut_ok (s : RS K mg ρ G H) (e : Ext ρ H ρ' H') (s' : RS K mg ρ' G' H') (c : (beqG (G'.take G.length) G || clsG G.length (G'.take G.length)) = true) :
    ρ'.take G.length = ρ ∧ RS K mg ρ (G'.take G.length) H' ∧ Ext ρ H ρ H' := by
  obtain ⟨t, rfl⟩ := e.pre
  have ht : (ρ ++ t).take G.length = ρ := by rw [← s.len, List.take_left']; rfl
  refine ⟨ht, ?_, ⟨[], by simp⟩, e.keep, fun a h1 h2 => absurd h1 h2⟩
  rw [← ht]
  refine s'.cut fun i ob hi h => ?_
  have hg : (G'.take G.length)[i]? = some ob := by rw [List.getElem?_take_of_lt hi]; exact h
  rcases (Bool.or_eq_true _ _).mp c with c | c
  · rw [beqG_eq c] at hg
    rw [← s.len]
    exact s.clsd hg
  · exact List.all_eq_true.mp c ob (List.mem_of_getElem? hg)
theorem finish_ok {α β γ δ : Type} {R : List Addr → Hp → α → γ → Prop} {R' : List Addr → Hp → β → δ → Prop} {W : XK} {sub : (Nat → Option D) → α → Option α} {d : α} {v : γ} {k : α → GS → RE β} {Q : δ → Hp → Prop}
    (hsub : ∀ (f : Nat → Option D) (n : Nat) (d' : α), (∀ m d v, f m = some d → RD K ρ' H' (.ref m) v → RD K (ρ'.take n) H' d v) → sub f d = some d' → R ρ' H' d v → R (ρ'.take n) H' d' v)
    (s : RS K mg ρ G H) (e : Ext ρ H ρ' H') (s' : RS K mg ρ' G' H') (r : R ρ' H' d v) (h : EP' K mg R' W ρ H (finish sub G d G' k) Q) :
    ∃ ρ2 G2 d2, Ext ρ H ρ2 H' ∧ RS K mg ρ2 G2 H' ∧ R ρ2 H' d2 v ∧ EP' K mg R' W ρ H (k d2 G2) Q := by
  unfold finish at h
  by_cases h1 : G'.length = G.length
  · rw [if_pos h1] at h; exact ⟨ρ', G', d, e, s', r, h⟩
  · rw [if_neg h1] at h
    by_cases h2 : (beqG (G'.take G.length) G || clsG G.length (G'.take G.length)) = true
    · rw [if_pos h2] at h
      cases q : sub (sealR 6 G.length G') d with
      | none => rw [q] at h; exact ⟨ρ', G', d, e, s', r, h⟩
      | some d' =>
        rw [q] at h
        obtain ⟨z, s2, e2⟩ := cut_ok s e s' h2
        refine ⟨ρ, _, d', e2, s2, ?_, h⟩
        have := hsub _ G.length d' (fun m d v a b => sealR_ok s' G.length 6 m d v a b) q r
        rw [z] at this
        exact this
    · rw [if_neg h2] at h; exact ⟨ρ', G', d, e, s', r, h⟩
end

/-! ## defs -/
def spF (K : PySem.W.Frag) (mg : MG) (n : Nat) (F : DF) : Sp := fun vs H Q E => ∃ ρ ds G, RS K mg ρ G H ∧ RDs K ρ H ds vs ∧ ds.length = n ∧ EPD K mg E ρ H (F ds G) Q
def WF (E : XK) : WX := fun cls d _ H => E cls d H
theorem zip_unzip : ∀ (fs : List (Str × D)) (ds : List D), ds.length = fs.length → ((fs.map (·.1)).zip ds).map (·.1) = fs.map (·.1) ∧ ((fs.map (·.1)).zip ds).map (·.2) = ds
  | [], [], _ => ⟨rfl, rfl⟩
  | (k, d) :: fs, e :: ds, h => by
    obtain ⟨h1, h2⟩ := zip_unzip fs ds (by simpa using h)
    simp only [List.map_cons, List.zip_cons_cons, h1, h2, and_self]
  | [], _ :: _, h => by simp at h
  | _ :: _, [], h => by simp at h
section
variable {P : Program} {w : World} {K : PySem.W.Frag} {mg : MG} {base : Heap}
theorem start_ct {ρ : List Addr} {G : GS} {H : Hp} {ds : List D} {vs : List V} {N : List Str} (s : RS K mg ρ G H) (r : RDs K ρ H ds vs) : Ct K mg ρ (ds.map some ++ List.replicate (N.length - ds.length) none) G (L2.start N vs) H := by
  refine ⟨s, by simp [L2.start, r.length], fun i d h => ?_⟩
  have hi : i < ds.length := by
    by_cases hi : i < ds.length
    · exact hi
    · rw [List.getElem?_append_right (by simpa using hi), List.getElem?_replicate] at h
      split at h <;> cases h
  rw [List.getElem?_append_left (by simpa using hi), List.getElem?_map] at h
  cases e : ds[i]? with
  | none => rw [e] at h; cases h
  | some d' =>
    rw [e] at h
    cases h
    obtain ⟨v, h1, h2⟩ := r.get e
    refine ⟨v, ?_, h2⟩
    unfold L2.start
    rw [List.getElem?_append_left (by simpa [r.length] using hi), List.getElem?_map, h1]
    rfl
theorem fn_ok {x qual : Str} {params : Arguments} {body : List Stmt} {scope : Scope} {dvs : List V} {kws : List (Str × V)} {f : Addr} {fd : FuncData} {N ps : List Str} {k n : Nat} {b : DS} (F : FunD K x qual params body scope dvs kws f fd) (S : FnScope N ps scope) (hn : N.length = n)
    (hbody : ∀ (cdv : Value) (A : Around) (outer : List Env) (s : Shared) (H : Hp) (E : XK), Room k (A.deeper (PyProof.Rows.envOfC qual scope s.heap.objs.size f cdv)) →
      PSsd (cxOf (L2.CX P w) P w K mg base N qual scope f cdv A outer s H E) (WF E) body b) : FnOk P w K mg base (L2.CX P w) (k + 1) f fd ps (spF K mg ps.length (runF n b)) := by
  subst hn
  refine F.ok S (fun vs H Q E ⟨ρ, ds, G, s, r, e, _⟩ => by rw [← e, r.length]) fun cdv A outer s H vs Q E hr ⟨ρ, ds, G, rs, r, _, h⟩ => ?_
  refine ⟨_, hbody cdv A outer s H E hr, ρ, _, G, start_ct rs r, ?_⟩
  show SPst K mg (WF E) ρ H (b (ds.map some ++ List.replicate (N.length - ds.length) none) G) _
  unfold runF at h
  cases q : b (ds.map some ++ List.replicate (N.length - ds.length) none) G with
  | nx σ G' =>
    rw [q] at h
    intro ρ' H' σ' e c
    obtain ⟨ρ2, G2, d2, e2, s2, r2, h2⟩ := finish_ok (R := RD K) (d := D.non) (v := V.non) (fun f n d' hf q r => RD.sub hf q r) rs e c.rs (by simp only [RD]) h
    exact h2 ρ2 H' _ e2 s2 r2
  | ret d G' =>
    rw [q] at h
    intro ρ' H' v e s' rv
    obtain ⟨ρ2, G2, d2, e2, s2, r2, h2⟩ := finish_ok (R := RD K) (v := v) (fun f n d' hf q r => RD.sub hf q r) rs e s' rv h
    exact h2 ρ2 H' _ e2 s2 r2
  | brk σ G' => rw [q] at h; exact h.elim
  | cont σ G' => rw [q] at h; exact h.elim
  | bad => rw [q] at h; exact h.elim
  | exc c fs σ G' =>
    rw [q] at h
    intro ρ' H' σ' C dx e ct g x
    obtain ⟨ρ2, G2, d2, e2, s2, r2, h2⟩ := finish_ok (R := fun ρ H fs (_ : Unit) => RX K ρ H dx fs) (v := ()) (fun f n fs' hf q r => by
      obtain ⟨fvs, r1, r2, r3, r4⟩ := r
      unfold subF at q
      rw [Option.map_eq_some_iff] at q
      obtain ⟨es, q1, rfl⟩ := q
      have r5 := RDs.sub hf q1 r4
      have hl : es.length = fs.length := by
        have := congrArg List.length r3
        simp at this
        have := r5.length
        simp at this
        omega
      obtain ⟨z1, z2⟩ := zip_unzip fs es hl
      exact ⟨fvs, r1, fun z => r2 (List.mem_of_mem_take z), by rw [z1]; exact r3, by rw [z2]; exact r5⟩) rs e ct.rs x h
    exact h2 ρ2 H' C dx e2 s2 g r2
end

/-- f(..) -/
def eCall (F : DF) (a : DA) : DE := fun σ G => bindE (a σ G) fun xs G1 => F xs G1
section
variable {X : Cx} {W : WX} {k : Nat} {f : Addr} {fd : FuncData} {ps : List Str} {F : DF} {x : Str} {p pos : Pos} {e : Expr} {es : List Expr} {da : DA}
theorem le_call (G : FnOk X.prog X.w X.K X.mg X.base (L2.CX X.prog X.w) k f fd ps (spF X.K X.mg ps.length F)) (tk : Takes X W) (hr : Room k X.A) (hg : Gl X x) (hm : X.mg x = some (.ref f)) (hk : PySem.W.keepIn X.K (.ref f) = true) (hb : Binds X.K fd ps [])
    (ha : PAd X W (e :: es) da) (hn : ∀ σ G xs G', da σ G = .ok xs G' → xs.length = ps.length) (hdb : (x == ("__debug__" : Str)) = false := by decide) (he : starEach (e :: es) X.env = (false, eval e X.env) :: starEach es X.env := by rfl) (hpl : (backTo pos (starEach es X.env)).any (·.1) = false := by rfl) :
    PEd X W (.Call (.Name x p) (e :: es) [] pos) (eCall F da) := by
  refine (pe_callS G hr hg hm hk hb (fun σ => passAt tk σ) ha hdb he hpl).le fun σ H Q ⟨ρ, σd, Gs, c, h⟩ => ?_
  refine ⟨ρ, σd, Gs, c, (EP'.bind h).mono fun _ H1 _ _ _ _ _ _ _ ⟨ρ1, G1, a, e1, s1, d1, q1, h1⟩ => ?_⟩
  exact ⟨ρ1, a, G1, s1, d1, hn _ _ _ _ q1, h1⟩
end
/-- a def of the top, known by its name -/
def FnX (P : Program) (w : World) (K : PySem.W.Frag) (mg : MG) (base : Heap) (x : Str) (k : Nat) (ps : List Str) (F : DF) : Prop :=
  ∃ fd, FnOk P w K mg base (L2.CX P w) k (He.ga K x) fd ps (spF K mg ps.length F) ∧ Binds K fd ps [] ∧ mg x = some (.ref (He.ga K x)) ∧ PySem.W.keepIn K (.ref (He.ga K x)) = true ∧
    (∀ (s : Shared) (us : List Value), us.length = ps.length → BindsTo s fd ⟨us, []⟩ (ps.zip us)) ∧ ∃ oc od osl, K.lookup (He.ga K x) = some ⟨oc, od, .func fd, osl⟩
theorem FunD_lk {K : PySem.W.Frag} {x qual : Str} {params : Arguments} {body : List Stmt} {scope : Scope} {dvs : List V} {kws : List (Str × V)} {f : Addr} {fd : FuncData} (F : FunD K x qual params body scope dvs kws f fd) : ∃ oc od osl, K.lookup f = some ⟨oc, od, .func fd, osl⟩ := by
  obtain ⟨oc, od, dV, kV, doc, pm, an, cdv, ct, osl, _, h, _⟩ := F.ex
  exact ⟨oc, od, osl, h⟩
theorem fnX {P : Program} {w : World} {K : PySem.W.Frag} {mg : MG} {base : Heap} {x qual : Str} {params : Arguments} {body : List Stmt} {scope : Scope} {N ps : List Str} {k n : Nat} {b : DS}
    (F : ∃ fd, FunD K x qual params body scope [] [] (He.ga K x) fd) (g : mg x = some (.ref (He.ga K x))) (S : FnScope N ps scope) (hn : N.length = n)
    (hb : ∀ (kV doc pm : Value) (an : Option Addr) (cdv ct : Value) (us : List Value), us.length = ps.length → bindArgs (PySem.W.fnOf x qual params body scope .none kV doc pm an cdv ct) ⟨us, []⟩ = pure (ps.zip us))
    (hbody : ∀ (f : Addr) (cdv : Value) (A : Around) (outer : List Env) (s : Shared) (H : Hp) (E : XK), Room k (A.deeper (PyProof.Rows.envOfC qual scope s.heap.objs.size f cdv)) →
      PSsd (cxOf (L2.CX P w) P w K mg base N qual scope f cdv A outer s H E) (WF E) body b) : FnX P w K mg base x (k + 1) ps (runF n b) := by
  obtain ⟨fd, F⟩ := F
  exact ⟨fd, fn_ok F S hn fun cdv A outer s H E hr => hbody _ cdv A outer s H E hr, F.bindsN hb, g, F.kp, F.bindsA hb, FunD_lk F⟩
theorem FnX.mono {P : Program} {w : World} {K : PySem.W.Frag} {mg : MG} {base : Heap} {x : Str} {j k : Nat} {ps : List Str} {F : DF} (h : FnX P w K mg base x j ps F) (l : j ≤ k) : FnX P w K mg base x k ps F := by
  obtain ⟨fd, a, b, c, d⟩ := h
  exact ⟨fd, a.mono l, b, c, d⟩
section
variable {X : Cx} {W : WX} {k : Nat} {ps : List Str} {F : DF} {x : Str} {p pos : Pos} {e : Expr} {es : List Expr} {da : DA}
theorem le_callX (G : FnX X.prog X.w X.K X.mg X.base x k ps F) (tk : Takes X W) (hr : Room k X.A) (hg : Gl X x)
    (ha : PAd X W (e :: es) da) (hn : ∀ σ G xs G', da σ G = .ok xs G' → xs.length = ps.length) (hdb : (x == ("__debug__" : Str)) = false := by decide) (he : starEach (e :: es) X.env = (false, eval e X.env) :: starEach es X.env := by rfl) (hpl : (backTo pos (starEach es X.env)).any (·.1) = false := by rfl) :
    PEd X W (.Call (.Name x p) (e :: es) [] pos) (eCall F da) := by
  obtain ⟨fd, G, b, g, kp, _⟩ := G
  exact le_call G tk hr hg g kp b ha hn hdb he hpl
theorem len_nil {σ : PEnv} {G : GS} {xs : List D} {G' : GS} (h : aNil σ G = .ok xs G') : xs.length = 0 := by
  unfold aNil at h
  injection h with h _
  rw [← h]; rfl
theorem len_cons {d : DE} {r : DA} {n : Nat} (hr : ∀ σ G xs G', r σ G = .ok xs G' → xs.length = n) {σ : PEnv} {G : GS} {xs : List D} {G' : GS} (h : aCons d r σ G = .ok xs G') : xs.length = n + 1 := by
  unfold aCons at h
  cases q : d σ G with
  | bad => rw [q] at h; cases h
  | exc _ _ _ => rw [q] at h; cases h
  | ok a G1 =>
    rw [q, bindE_ok] at h
    cases q2 : r σ G1 with
    | bad => rw [q2] at h; cases h
    | exc _ _ _ => rw [q2] at h; cases h
    | ok as G2 =>
      rw [q2, bindE_ok] at h
      injection h with h _
      rw [← h, List.length_cons, hr _ _ _ _ q2]
end
end Dl
namespace Dl
open PySem L2

section
variable {X : Cx}
theorem S_len (s : List Nat) : (S s).length = s.length := by simp [S, Str.length]
theorem S_cps (s : List Nat) : (S s).cps.toList = s := by simp [S]
theorem S_app (a b : List Nat) : S a ++ S b = S (a ++ b) := by
  show Str.append (S a) (S b) = _
  simp [S, Str.append]
theorem S_inj {a b : List Nat} (h : S a = S b) : a = b := by
  have := congrArg (fun x : Str => x.cps.toList) h
  simpa [S] using this
theorem S_dec (a b : List Nat) : decide (V.str (S a) = V.str (S b)) = decide (a = b) := by
  by_cases h : a = b
  · subst h; simp
  · rw [decide_eq_false h, decide_eq_false]
    intro e; injection e with e; exact h (S_inj e)

/-- an answer that is known -/
theorem now {K : PySem.W.Frag} {mg : MG} {W : XK} {ρ : List Addr} {G : GS} {H : Hp} {d : D} {v : V} {Q : VK} (h : EPD K mg W ρ H (.ok d G) Q) (s : RS K mg ρ G H) (r : RD K ρ H d v) : Q v H := h ρ H v (.refl _ _) s r

/-! ## arithmetic -/
def bSub : D → D → GS → RE D := fun x y G => match x, y with
  | .int i, .int j => .ok (.int (i - j)) G
  | _, _ => .bad
def bFdiv : D → D → GS → RE D := fun x y G => match x, y with
  | .int i, .int j => if 0 < j ∧ j < 1073741824 then .ok (.int (i / j)) G else .bad
  | _, _ => .bad
def bMod : D → D → GS → RE D := fun x y G => match x, y with
  | .int i, .int j => if 0 < j then .ok (.int (i % j)) G else .bad
  | _, _ => .bad
def bPow : D → D → GS → RE D := fun x y G => match x, y with
  | .int i, .int j => if 0 ≤ j ∧ j ≤ 1000000 ∧ i.natAbs < 2 ^ 64 then .ok (.int (i ^ j.toNat)) G else .bad
  | _, _ => .bad
/-- two ints, and nothing else -/
theorem srv_int {r : R2} {f : D → D → GS → RE D} (h : ∀ (W : XK) ρ G H (i j : Int) Q, RS X.K X.mg ρ G H → EPD X.K X.mg W ρ H (f (.int i) (.int j) G) Q → r (.int i) (.int j) H Q)
    (hb : ∀ x y G, (∀ i j, ¬ (x = .int i ∧ y = .int j)) → f x y G = .bad) : Srv2 X r f := by
  intro W ρ G H x y dx dy Q s rx ry q
  by_cases hx : ∃ i j, dx = .int i ∧ dy = .int j
  · obtain ⟨i, j, rfl, rfl⟩ := hx
    cases (show _ = _ from rx); cases (show _ = _ from ry)
    exact h W ρ G H i j Q s q
  · rw [hb dx dy G fun i j e => hx ⟨i, j, e⟩] at q
    exact q.elim
theorem sv_sub : Srv2 X (rI0 fun i j => .int (i - j)) bSub := srv_int (fun W ρ G H i j Q s q => ⟨i, j, rfl, rfl, now q s rfl⟩) fun x y G h => by
  cases x <;> cases y <;> first | rfl | exact absurd ⟨rfl, rfl⟩ (h _ _)
theorem sv_fdiv : Srv2 X (rI CDiv fun i j => .int (i / j)) bFdiv := srv_int (fun W ρ G H i j Q s q => by
    simp only [bFdiv] at q
    split at q
    · rename_i c; exact ⟨i, j, rfl, rfl, c, now q s rfl⟩
    · exact q.elim) fun x y G h => by
  cases x <;> cases y <;> first | rfl | exact absurd ⟨rfl, rfl⟩ (h _ _)
theorem sv_mod : Srv2 X (rI (fun _ j => 0 < j) fun i j => .int (i % j)) bMod := srv_int (fun W ρ G H i j Q s q => by
    simp only [bMod] at q
    split at q
    · rename_i c; exact ⟨i, j, rfl, rfl, c, now q s rfl⟩
    · exact q.elim) fun x y G h => by
  cases x <;> cases y <;> first | rfl | exact absurd ⟨rfl, rfl⟩ (h _ _)
theorem sv_pow : Srv2 X (rI CPow fun i j => .int (i ^ j.toNat)) bPow := srv_int (fun W ρ G H i j Q s q => by
    simp only [bPow] at q
    split at q
    · rename_i c; exact ⟨i, j, rfl, rfl, c, now q s rfl⟩
    · exact q.elim) fun x y G h => by
  cases x <;> cases y <;> first | rfl | exact absurd ⟨rfl, rfl⟩ (h _ _)
/-- a list that may be read, changed or not -/
def lstOf (G : GS) : D → Option (List D)
  | .lst ds => some ds
  | .ref n => match G[n]? with | some (.lst ds) => some ds | _ => none
  | _ => none
theorem lstOf_at {K : PySem.W.Frag} {mg : MG} {ρ : List Addr} {G : GS} {H : Hp} (s : RS K mg ρ G H) {d : D} {ds : List D} {v : V} (h : lstOf G d = some ds) (r : RD K ρ H d v) : ∃ a vs, v = .ref a ∧ H a = some (.lst vs) ∧ RDs K ρ H ds vs := by
  cases d with
  | lst es =>
    simp only [lstOf, Option.some.injEq] at h
    subst h
    obtain ⟨a, vs, e, h1, h2⟩ := r
    exact ⟨a, vs, e, h1.1, h2⟩
  | ref n =>
    obtain ⟨a, h1, e⟩ := r
    simp only [lstOf] at h
    cases g : G[n]? with
    | none => simp [g] at h
    | some ob =>
      cases ob with
      | ins _ _ => simp [g] at h
      | lst es =>
        simp only [g, Option.some.injEq] at h
        subst h
        obtain ⟨vs, h2, h3⟩ := s.at_ n a _ h1 g
        exact ⟨a, vs, e, h2, h3⟩
  | _ => simp [lstOf] at h
/-- + : ints, texts, lists (a new list that is not changed) -/
def bAdd : D → D → GS → RE D := fun x y G => match x, y with
  | .int i, .int j => .ok (.int (i + j)) G
  | .str a, .str b => if a.length + b.length ≤ maxLine then .ok (.str (a ++ b)) G else .bad
  | x, y => match lstOf G x, lstOf G y with
    | some a, some b => if a.length + b.length ≤ maxLine then .ok (.lst (a ++ b)) G else .bad
    | _, _ => .bad
def rAddA : R2 := fun x y H Q => rI0 (fun i j => .int (i + j)) x y H Q ∨ ((∃ i j, x = .str i ∧ y = .str j ∧ i.length + j.length ≤ sizeLine ∧ Q (.str (i ++ j)) H) ∨ rCat x y H Q)
theorem op_addA : OpR X (binaryOp .Add) rAddA := op_add.or (op_add_str.or op_cat)
theorem lay_lst {K : PySem.W.Frag} {mg : MG} {W : XK} {ρ : List Addr} {G : GS} {H : Hp} {xs : List D} {v : List V} {Q : VK} (h : EPD K mg W ρ H (.ok (.lst xs) G) Q) (s : RS K mg ρ G H) (r : RDs K ρ H xs v) {p : Addr} (hp : H p = none) : Q (.ref p) (upd H p (.lst v)) := by
  obtain ⟨e, s'⟩ := s.lay (.lst v) hp
  exact h ρ _ _ e s' ⟨p, v, rfl, ⟨upd_same, s.fresh hp⟩, r.ext e⟩
theorem sv_add : Srv2 X rAddA bAdd := by
  intro W ρ G H x y dx dy Q s rx ry q
  unfold bAdd at q
  split at q
  · cases (show _ = _ from rx); cases (show _ = _ from ry)
    exact .inl ⟨_, _, rfl, rfl, now q s rfl⟩
  · rename_i a b
    cases (show _ = _ from rx); cases (show _ = _ from ry)
    split at q
    · rename_i c
      refine .inr (.inl ⟨_, _, rfl, rfl, by rw [S_len, S_len, ← maxLine_eq]; exact c, ?_⟩)
      rw [S_app]
      exact now q s rfl
    · exact q.elim
  · split at q
    · rename_i a b h1 h2
      obtain ⟨l, xs, rfl, hl, r1⟩ := lstOf_at s h1 rx
      obtain ⟨m, ys, rfl, hm, r2⟩ := lstOf_at s h2 ry
      split at q
      · rename_i c
        refine .inr (.inr ⟨l, m, xs, ys, rfl, rfl, hl, hm, by rw [← r1.length, ← r2.length, ← maxLine_eq]; exact c, fun p hp => lay_lst q s (r1.append r2) hp⟩)
      · exact q.elim
    · exact q.elim
/-- * : ints, text * int, list * int -/
theorem cmul_ex : ∃ f : Int → Int → Bool, ∀ i j, f i j = ((decide (-(2 ^ 64) < i) && decide (i < 2 ^ 64)) || (decide (-(2 ^ 64) < j) && decide (j < 2 ^ 64))) := ⟨fun i j => _, fun _ _ => rfl⟩
noncomputable def cmul : Int → Int → Bool := Classical.choose cmul_ex
theorem cmul_eq (i j : Int) : cmul i j = ((decide (-(2 ^ 64) < i) && decide (i < 2 ^ 64)) || (decide (-(2 ^ 64) < j) && decide (j < 2 ^ 64))) := Classical.choose_spec cmul_ex i j
def repL {α : Type} (l : List α) : Nat → List α
  | 0 => []
  | n + 1 => l ++ repL l n
theorem repOk_ex : ∃ f : Int → Nat → Bool, ∀ n l, f n l = (decide (-(2 ^ 62) ≤ n) && decide (n ≤ 16777216) && decide (l * n.toNat ≤ maxLine)) := ⟨fun n l => _, fun _ _ => rfl⟩
noncomputable def repOk : Int → Nat → Bool := Classical.choose repOk_ex
theorem repOk_eq (n : Int) (l : Nat) : repOk n l = (decide (-(2 ^ 62) ≤ n) && decide (n ≤ 16777216) && decide (l * n.toNat ≤ maxLine)) := Classical.choose_spec repOk_ex n l
noncomputable def bMul : D → D → GS → RE D := fun x y G => match x, y with
  | .int i, .int j => if cmul i j = true then .ok (.int (i * j)) G else .bad
  | .str a, .int n => if repOk n a.length = true then .ok (.str (repL a n.toNat)) G else .bad
  | x, .int n => match lstOf G x with
    | some a => if repOk n a.length = true then .ok (.lst (repL a n.toNat)) G else .bad
    | _ => .bad
  | _, _ => .bad
def rMulS : R2 := fun x y H Q => ∃ a n, x = .str a ∧ y = .int n ∧ MulOk a n ∧ Q (.str (Txt.mul a n)) H
theorem op_mulS : OpR X (binaryOp .Mult) rMulS := by
  intro pins s σ H x y v u Q I rx ry h
  obtain ⟨a, n, rfl, rfl, hok, q⟩ := h
  obtain ⟨t, rfl⟩ := rx
  obtain ⟨t', rfl⟩ := ry
  exact SB.mul hok fun t' k => ⟨.str _, H, I.tok _, ⟨_, rfl⟩, q⟩
theorem repL_flat {α : Type} (l : List α) : ∀ n, (List.replicate n l).flatten = repL l n
  | 0 => rfl
  | n + 1 => by rw [List.replicate_succ, List.flatten_cons, repL_flat l n]; rfl
theorem foldl_rep (a : Array Nat) : ∀ (n : Nat) (b : Array Nat), ((List.replicate n a).foldl (· ++ ·) b).toList = b.toList ++ repL a.toList n
  | 0, b => by simp [repL]
  | n + 1, b => by rw [List.replicate_succ, List.foldl_cons, foldl_rep a n, repL]; simp
theorem repL_len {α : Type} (l : List α) : ∀ n, (repL l n).length = l.length * n
  | 0 => by simp [repL]
  | n + 1 => by simp only [repL, List.length_append, repL_len l n, Nat.mul_succ]; omega
theorem repL_nil {α : Type} : ∀ n, repL ([] : List α) n = []
  | 0 => rfl
  | n + 1 => by simp [repL, repL_nil n]
theorem mul_S (a : List Nat) (n : Int) : Txt.mul (S a) n = S (repL a n.toNat) := by
  unfold Txt.mul
  split
  · rename_i h
    have : n.toNat = 0 := by omega
    rw [this]; rfl
  · rename_i h
    split
    · rename_i h2
      rw [Bool.or_eq_true, beq_iff_eq, beq_iff_eq, S_len] at h2
      rcases h2 with h2 | h2
      · subst h2; show S a = S (a ++ []); rw [List.append_nil]
      · have : a = [] := List.length_eq_zero_iff.mp h2
        subst this; rw [repL_nil]
    · have := foldl_rep a.toArray n.toNat #[]
      unfold S
      congr 1
      rw [← Array.toList_inj, this]; simp
theorem mulOk_S (a : List Nat) (n : Int) (h1 : -(2 ^ 62) ≤ n) (h2 : n ≤ 16777216) (h3 : a.length * n.toNat ≤ maxLine) : MulOk (S a) n := by
  have h4 : ¬ n < -(2 ^ 63 : Int) := by omega
  have h5 : ¬ n ≥ (2 ^ 63 : Int) := by omega
  refine ⟨by rw [decide_eq_false h4, decide_eq_false h5]; rfl, fun c _ => ?_, fun c _ => ?_⟩
  · rw [S_len]
    have p : 0 < n := by omega
    have : (a.length : Int) * n ≤ 16777216 := by
      have e : (n.toNat : Int) = n := Int.toNat_of_nonneg (by omega)
      have : ((a.length * n.toNat : Nat) : Int) ≤ (maxLine : Nat) := Int.ofNat_le.mpr h3
      rw [Int.natCast_mul, e] at this
      exact this
    intro gt
    have g2 : (2 ^ 63 - 1) / n + 1 ≤ (a.length : Int) := by omega
    have g3 : (2 ^ 63 - 1 : Int) < ((2 ^ 63 - 1) / n + 1) * n := Int.lt_mul_of_ediv_lt p (by omega)
    have g4 : ((2 ^ 63 - 1) / n + 1) * n ≤ (a.length : Int) * n := Int.mul_le_mul_of_nonneg_right g2 (by omega)
    omega
  · rw [S_len]
    unfold Builtin.Str.tooLong
    rw [maxLine_eq] at h3
    simp only [decide_eq_false_iff_not, Nat.not_lt, gt_iff_lt]
    exact h3
def rMulA : R2 := fun x y H Q => rI CMul (fun i j => .int (i * j)) x y H Q ∨ (rMulS x y H Q ∨ rRep x y H Q)
theorem op_mulA : OpR X (binaryOp .Mult) rMulA := op_mul.or (op_mulS.or op_rep)
theorem RDs.rep {K : PySem.W.Frag} {ρ : List Addr} {H : Hp} {ds : List D} {vs : List V} (r : RDs K ρ H ds vs) : ∀ n, RDs K ρ H (repL ds n) (repL vs n)
  | 0 => rfl
  | n + 1 => r.append (RDs.rep r n)
theorem sv_mul : Srv2 X rMulA bMul := by
  intro W ρ G H x y dx dy Q s rx ry q
  unfold bMul at q
  split at q
  · rename_i i j
    cases (show _ = _ from rx); cases (show _ = _ from ry)
    split at q
    · rename_i c
      simp only [cmul_eq, Bool.or_eq_true, Bool.and_eq_true, decide_eq_true_eq] at c
      exact .inl ⟨_, _, rfl, rfl, c, now q s rfl⟩
    · exact q.elim
  · rename_i a n
    cases (show _ = _ from rx); cases (show _ = _ from ry)
    split at q
    · rename_i c
      simp only [repOk_eq, Bool.and_eq_true, decide_eq_true_eq, and_assoc] at c
      refine .inr (.inl ⟨_, _, rfl, rfl, mulOk_S a n c.1 c.2.1 c.2.2, ?_⟩)
      rw [mul_S]
      exact now q s rfl
    · exact q.elim
  · rename_i n _ _
    cases (show _ = _ from ry)
    split at q
    · rename_i a h1
      obtain ⟨l, xs, rfl, hl, r1⟩ := lstOf_at s h1 rx
      split at q
      · rename_i c
        simp only [repOk_eq, Bool.and_eq_true, decide_eq_true_eq, and_assoc] at c
        refine .inr (.inr ⟨l, n, xs, rfl, rfl, hl, by omega, by omega, by rw [← r1.length, ← maxLine_eq]; exact c.2.2, fun p hp => ?_⟩)
        rw [repL_flat]
        exact lay_lst q s (r1.rep _) hp
      · exact q.elim
    · exact q.elim
  · exact q.elim
/-! ## comparisons -/
def cLt : D → D → GS → RE D := fun x y G => match x, y with
  | .int i, .int j => .ok (.bl (decide (i < j))) G
  | _, _ => .bad
def cLe : D → D → GS → RE D := fun x y G => match x, y with
  | .int i, .int j => .ok (.bl (decide (i ≤ j))) G
  | _, _ => .bad
def cGt : D → D → GS → RE D := fun x y G => match x, y with
  | .int i, .int j => .ok (.bl (decide (j < i))) G
  | _, _ => .bad
def cGe : D → D → GS → RE D := fun x y G => match x, y with
  | .int i, .int j => .ok (.bl (decide (j ≤ i))) G
  | _, _ => .bad
theorem sv_lt : Srv2 X (rI0 fun i j => .bl (decide (i < j))) cLt := srv_int (fun W ρ G H i j Q s q => ⟨i, j, rfl, rfl, now q s rfl⟩) fun x y G h => by
  cases x <;> cases y <;> first | rfl | exact absurd ⟨rfl, rfl⟩ (h _ _)
theorem sv_le : Srv2 X (rI0 fun i j => .bl (decide (i ≤ j))) cLe := srv_int (fun W ρ G H i j Q s q => ⟨i, j, rfl, rfl, now q s rfl⟩) fun x y G h => by
  cases x <;> cases y <;> first | rfl | exact absurd ⟨rfl, rfl⟩ (h _ _)
theorem sv_gt : Srv2 X (rI0 fun i j => .bl (decide (j < i))) cGt := srv_int (fun W ρ G H i j Q s q => ⟨i, j, rfl, rfl, now q s rfl⟩) fun x y G h => by
  cases x <;> cases y <;> first | rfl | exact absurd ⟨rfl, rfl⟩ (h _ _)
theorem sv_ge : Srv2 X (rI0 fun i j => .bl (decide (j ≤ i))) cGe := srv_int (fun W ρ G H i j Q s q => ⟨i, j, rfl, rfl, now q s rfl⟩) fun x y G h => by
  cases x <;> cases y <;> first | rfl | exact absurd ⟨rfl, rfl⟩ (h _ _)
/-- flat data, as a value -/
def flat : D → Option V
  | .non => some .non
  | .bl b => some (.bl b)
  | .int i => some (.int i)
  | .str s => some (.str (S s))
  | _ => none
theorem flat_is {K : PySem.W.Frag} {ρ : List Addr} {H : Hp} {d : D} {v u : V} (h : flat d = some u) (r : RD K ρ H d v) : v = u := by
  cases d <;> simp only [flat, Option.some.injEq, reduceCtorEq] at h <;> subst h <;> exact r
theorem flat_flatV {d : D} {u : V} (h : flat d = some u) : flatV u = true := by
  cases d <;> simp only [flat, Option.some.injEq, reduceCtorEq] at h <;> subst h <;> rfl
/-- == of data as Python has it (True == 1), refs through the store one level deep at a time -/
def pyD (k : Nat) (G : GS) : D → Option PyData := match k with
  | 0 => fun _ => none
  | k + 1 => fun d => match d with
    | .non => some .none
    | .bl b => some (.bool b)
    | .int i => some (.int i)
    | .str s => some (.str (S s))
    | .tup ds => (ds.mapM (pyD k G)).map .tuple
    | .lst ds => (ds.mapM (pyD k G)).map .list
    | .ref n => match G[n]? with
      | some (.lst ds) => (ds.mapM (pyD k G)).map .list
      | _ => none
    | _ => none
theorem mapM_cons' {α β : Type} {f : α → Option β} {a : α} {as : List α} {r : List β} (h : (a :: as).mapM f = some r) : ∃ b bs, f a = some b ∧ as.mapM f = some bs ∧ r = b :: bs := by
  rw [List.mapM_cons] at h
  cases e : f a with
  | none => simp [e] at h
  | some b =>
    cases e2 : as.mapM f with
    | none => simp [e, e2] at h
    | some bs => simp [e, e2] at h; exact ⟨b, bs, rfl, rfl, h.symm⟩
theorem dpAll_of {K : PySem.W.Frag} {ρ : List Addr} {H : Hp} {f : D → Option PyData} (hf : ∀ d p v, f d = some p → RD K ρ H d v → Dp K H v p) : ∀ {ds : List D} {ps : List PyData} {vs : List V}, ds.mapM f = some ps → RDs K ρ H ds vs → DpAll K H vs ps
  | [], ps, vs, h, r => by
    cases (show _ = _ from r)
    simp at h; subst h; exact .nil
  | d :: ds, ps, vs, h, ⟨v, r, e, r1, r2⟩ => by
    subst e
    obtain ⟨b, bs, h1, h2, rfl⟩ := mapM_cons' h
    exact .cons (hf _ _ _ h1 r1) (dpAll_of hf h2 r2)
theorem pyD_dp {K : PySem.W.Frag} {mg : MG} {ρ : List Addr} {G : GS} {H : Hp} (s : RS K mg ρ G H) : ∀ (k : Nat) (d : D) (p : PyData) (v : V), pyD k G d = some p → RD K ρ H d v → Dp K H v p
  | 0, d, p, v, h, _ => by simp [pyD] at h
  | k + 1, d, p, v, h, r => by
    cases d with
    | non => simp only [pyD, Option.some.injEq] at h; subst h; cases (show _ = _ from r); exact .non
    | bl b => simp only [pyD, Option.some.injEq] at h; subst h; cases (show _ = _ from r); exact .bl _
    | int i => simp only [pyD, Option.some.injEq] at h; subst h; cases (show _ = _ from r); exact .int _
    | str s => simp only [pyD, Option.some.injEq] at h; subst h; cases (show _ = _ from r); exact .str _
    | tup ds =>
      simp only [pyD, Option.map_eq_some_iff] at h
      obtain ⟨ps, h1, rfl⟩ := h
      obtain ⟨a, vs, rfl, t, r⟩ := r
      exact .tup t.sq (dpAll_of (fun d p v a b => pyD_dp s k d p v a b) h1 r)
    | lst ds =>
      simp only [pyD, Option.map_eq_some_iff] at h
      obtain ⟨ps, h1, rfl⟩ := h
      obtain ⟨a, vs, rfl, t, r⟩ := r
      exact .lst (.of t.1) (dpAll_of (fun d p v a b => pyD_dp s k d p v a b) h1 r)
    | ref n =>
      simp only [pyD] at h
      obtain ⟨a, h1, rfl⟩ := r
      cases g : G[n]? with
      | none => simp [g] at h
      | some ob =>
        cases ob with
        | ins _ _ => simp [g] at h
        | lst ds =>
          simp only [g, Option.map_eq_some_iff] at h
          obtain ⟨ps, h2, rfl⟩ := h
          obtain ⟨vs, h3, h4⟩ := s.at_ n a _ h1 g
          exact .lst (.of h3) (dpAll_of (fun d p v a b => pyD_dp s k d p v a b) h2 h4)
    | dic _ _ => simp [pyD] at h
    | scr _ => simp [pyD] at h
def cEqB (neg : Bool) : D → D → GS → RE D := fun x y G => match x, y with
  | .int i, .int j => .ok (.bl (xor neg (decide (i = j)))) G
  | .str a, .str b => .ok (.bl (xor neg (decide (a = b)))) G
  | .bl a, .bl b => .ok (.bl (xor neg (decide (a = b)))) G
  | x, y => match pyD 12 G x, pyD 12 G y with
    | some a, some b => if (SeqAt.shaped a && SeqAt.shaped b) = true then .ok (.bl (xor neg (PyData.eqv a b))) G else .bad
    | _, _ => .bad
def rEqA (K : PySem.W.Frag) : R2 := fun x y H Q => rEq x y H Q ∨ rEqD K x y H Q
def rNeA (K : PySem.W.Frag) : R2 := fun x y H Q => rNe x y H Q ∨ rNeD K x y H Q
theorem op_eqA (hu : X.A.units + 64 < cLine) : OpR X (compareOp .Eq) (rEqA X.K) := op_eq.or (op_eqD hu)
theorem op_neA (hu : X.A.units + 64 < cLine) : OpR X (compareOp .NotEq) (rNeA X.K) := op_ne.or (op_neD hu)
theorem dec_iff {p q : Prop} [Decidable p] [Decidable q] (h : p ↔ q) : decide p = decide q := by simp [h]
theorem sv_eq : Srv2 X (rEqA X.K) (cEqB false) := by
  intro W ρ G H x y dx dy Q s rx ry q
  unfold cEqB at q
  split at q
  · cases (show _ = _ from rx); cases (show _ = _ from ry)
    refine .inl ⟨rfl, ?_⟩
    rw [show ∀ i j : Int, decide (V.int i = V.int j) = decide (i = j) from fun i j => dec_iff ⟨fun e => by injection e, fun e => by rw [e]⟩]
    have := now q s (v := V.bl (xor false (decide (_ = _)))) rfl
    simpa using this
  · cases (show _ = _ from rx); cases (show _ = _ from ry)
    refine .inl ⟨rfl, ?_⟩
    rw [S_dec]
    have := now q s (v := V.bl (xor false (decide (_ = _)))) rfl
    simpa using this
  · cases (show _ = _ from rx); cases (show _ = _ from ry)
    refine .inl ⟨rfl, ?_⟩
    rw [show ∀ i j : Bool, decide (V.bl i = V.bl j) = decide (i = j) from fun i j => dec_iff ⟨fun e => by injection e, fun e => by rw [e]⟩]
    have := now q s (v := V.bl (xor false (decide (_ = _)))) rfl
    simpa using this
  · split at q
    · rename_i a b h1 h2
      split at q
      · rename_i c
        rw [Bool.and_eq_true] at c
        refine .inr ⟨a, b, pyD_dp s 12 _ _ _ h1 rx, pyD_dp s 12 _ _ _ h2 ry, c.1, c.2, ?_⟩
        have := now q s (v := V.bl (xor false (PyData.eqv a b))) rfl
        simpa using this
      · exact q.elim
    · exact q.elim
theorem sv_ne : Srv2 X (rNeA X.K) (cEqB true) := by
  intro W ρ G H x y dx dy Q s rx ry q
  unfold cEqB at q
  split at q
  · cases (show _ = _ from rx); cases (show _ = _ from ry)
    refine .inl ⟨rfl, ?_⟩
    rw [show ∀ i j : Int, decide (V.int i = V.int j) = decide (i = j) from fun i j => dec_iff ⟨fun e => by injection e, fun e => by rw [e]⟩]
    have := now q s (v := V.bl (xor true (decide (_ = _)))) rfl
    simpa using this
  · cases (show _ = _ from rx); cases (show _ = _ from ry)
    refine .inl ⟨rfl, ?_⟩
    rw [S_dec]
    have := now q s (v := V.bl (xor true (decide (_ = _)))) rfl
    simpa using this
  · cases (show _ = _ from rx); cases (show _ = _ from ry)
    refine .inl ⟨rfl, ?_⟩
    rw [show ∀ i j : Bool, decide (V.bl i = V.bl j) = decide (i = j) from fun i j => dec_iff ⟨fun e => by injection e, fun e => by rw [e]⟩]
    have := now q s (v := V.bl (xor true (decide (_ = _)))) rfl
    simpa using this
  · split at q
    · rename_i a b h1 h2
      split at q
      · rename_i c
        rw [Bool.and_eq_true] at c
        refine .inr ⟨a, b, pyD_dp s 12 _ _ _ h1 rx, pyD_dp s 12 _ _ _ h2 ry, c.1, c.2, ?_⟩
        have := now q s (v := V.bl (xor true (PyData.eqv a b))) rfl
        simpa using this
      · exact q.elim
    · exact q.elim
end
end Dl
namespace Dl
open PySem L2

section
variable {X : Cx}
theorem EPD.of_eq {K : PySem.W.Frag} {mg : MG} {W : XK} {ρ : List Addr} {H : Hp} {r r' : RE D} {Q : VK} (h : EPD K mg W ρ H r Q) (e : r = r') : EPD K mg W ρ H r' Q := e ▸ h
/-! ## is None -/
def cIsN (neg : Bool) : D → GS → RE D := fun x G => match x with
  | .non => .ok (.bl (!neg)) G
  | _ => .ok (.bl neg) G
theorem rd_non {K : PySem.W.Frag} {ρ : List Addr} {H : Hp} {d : D} (h : RD K ρ H d .non) : d = .non := by
  cases d with
  | non => rfl
  | tup _ => obtain ⟨_, _, e, _⟩ := h; cases e
  | lst _ => obtain ⟨_, _, e, _⟩ := h; cases e
  | dic _ _ => obtain ⟨_, _, e, _⟩ := h; cases e
  | ref _ => obtain ⟨_, _, e⟩ := h; cases e
  | scr _ => obtain ⟨_, e, _⟩ := h; cases e
  | _ => cases (show _ = _ from h)
theorem cIsN_ok (neg : Bool) {d : D} (G : GS) {K : PySem.W.Frag} {ρ : List Addr} {H : Hp} {v : V} (r : RD K ρ H d v) : cIsN neg d G = .ok (.bl (xor neg (decide (v = .non)))) G := by
  by_cases h : v = .non
  · subst h
    cases rd_non r
    simp [cIsN]
  · cases d with
    | non => exact absurd r h
    | _ => simp [cIsN, h]
variable {W : WX}
theorem le_isN {a : Expr} {da : DE} {j pos pos'} (ha : PEd X W a da) : PEd X W (.Compare a [.Is] [.Constant .none j pos'] pos) (eUn (cIsN false) da) := by
  refine (pe_cmp (pc_isN ha) (by rfl)).le fun σ H Q ⟨ρ, σd, G, c, h⟩ => ⟨ρ, σd, G, c, (EP'.bind h).mono fun _ H1 _ _ _ _ _ _ _ ⟨ρ1, G1, a, e1, s1, d1, _, h1⟩ => ?_⟩
  have := now (EPD.of_eq h1 (cIsN_ok false G1 d1)) s1 rfl
  simpa using this
theorem le_notN {a : Expr} {da : DE} {j pos pos'} (ha : PEd X W a da) : PEd X W (.Compare a [.IsNot] [.Constant .none j pos'] pos) (eUn (cIsN true) da) := by
  refine (pe_cmp (pc_notN ha) (by rfl)).le fun σ H Q ⟨ρ, σd, G, c, h⟩ => ⟨ρ, σd, G, c, (EP'.bind h).mono fun _ H1 _ _ _ _ _ _ _ ⟨ρ1, G1, a, e1, s1, d1, _, h1⟩ => ?_⟩
  have := now (EPD.of_eq h1 (cIsN_ok true G1 d1)) s1 rfl
  simpa using this

/-! ## in -/
def seqOf (G : GS) : D → Option (List D)
  | .tup ds => some ds
  | d => lstOf G d
theorem seqOf_at {K : PySem.W.Frag} {mg : MG} {ρ : List Addr} {G : GS} {H : Hp} (s : RS K mg ρ G H) {d : D} {ds : List D} {v : V} (h : seqOf G d = some ds) (r : RD K ρ H d v) : ∃ a vs, v = .ref a ∧ (SqL K H a vs ∨ SqT K H a vs) ∧ RDs K ρ H ds vs := by
  cases d with
  | tup es =>
    simp only [seqOf, Option.some.injEq] at h
    subst h
    obtain ⟨a, vs, e, h1, h2⟩ := r
    exact ⟨a, vs, e, .inr h1.sq, h2⟩
  | lst es =>
    obtain ⟨a, vs, e, h1, h2⟩ := lstOf_at s (d := .lst es) h r
    exact ⟨a, vs, e, .inl (.of h1), h2⟩
  | ref n =>
    obtain ⟨a, vs, e, h1, h2⟩ := lstOf_at s (d := .ref n) h r
    exact ⟨a, vs, e, .inl (.of h1), h2⟩
  | _ => simp [seqOf, lstOf] at h
/-- substring -/
def subS (a b : List Nat) : Bool := !(Builtin.Str.occurrences (S b) (S a) 0 (S b).length 1).isEmpty
theorem subS_one (c : Nat) (b : List Nat) : subS [c] b = decide (c ∈ b) := by
  have := PySem.StrLaws.found_one (S b) c
  rw [S_cps] at this
  exact this
def flats (ds : List D) : Option (List V) := ds.mapM flat
def cIn (neg : Bool) : D → D → GS → RE D := fun x y G => match x, y with
  | .str a, .str b => .ok (.bl (xor neg (subS a b))) G
  | x, y => match flat x, (seqOf G y).bind flats with
    | some u, some vs => .ok (.bl (xor neg (inV u vs))) G
    | _, _ => .bad
def rInA (K : PySem.W.Frag) (neg : Bool) : R2 := fun x y H Q => (∃ i j, x = .str i ∧ y = .str j ∧ Q (.bl (xor neg (!(Builtin.Str.occurrences j i 0 j.length 1).isEmpty))) H) ∨ rIn K neg x y H Q
theorem op_inA : OpR X (compareOp .In) (rInA X.K false) := by
  intro pins s σ H x y v u Q I rx ry h
  rcases h with ⟨i, j, rfl, rfl, q⟩ | h
  · rw [Bool.false_xor] at q
    exact op_in_str pins s σ H _ _ v u Q I rx ry ⟨i, j, rfl, rfl, q⟩
  · exact op_in_seq pins s σ H x y v u Q I rx ry h
theorem op_notInA : OpR X (compareOp .NotIn) (rInA X.K true) := by
  intro pins s σ H x y v u Q I rx ry h
  rcases h with ⟨i, j, rfl, rfl, q⟩ | h
  · rw [Bool.true_xor] at q
    exact op_notIn_str pins s σ H _ _ v u Q I rx ry ⟨i, j, rfl, rfl, q⟩
  · exact op_notIn_seq pins s σ H x y v u Q I rx ry h
theorem flats_is {K : PySem.W.Frag} {ρ : List Addr} {H : Hp} : ∀ {ds : List D} {us vs : List V}, flats ds = some us → RDs K ρ H ds vs → vs = us ∧ us.all flatV = true
  | [], us, vs, h, r => by
    cases (show _ = _ from r)
    simp [flats] at h; subst h; exact ⟨rfl, rfl⟩
  | d :: ds, us, vs, h, ⟨v, r', e, r1, r2⟩ => by
    subst e
    obtain ⟨b, bs, h1, h2, rfl⟩ := mapM_cons' h
    obtain ⟨z1, z2⟩ := flats_is h2 r2
    rw [flat_is h1 r1, z1]
    refine ⟨rfl, ?_⟩
    rw [List.all_cons, flat_flatV h1, z2]; rfl
theorem sv_in (neg : Bool) : Srv2 X (rInA X.K neg) (cIn neg) := by
  intro W ρ G H x y dx dy Q s rx ry q
  unfold cIn at q
  split at q
  · cases (show _ = _ from rx); cases (show _ = _ from ry)
    exact .inl ⟨_, _, rfl, rfl, now q s rfl⟩
  · split at q
    · rename_i u us h1 h2
      rw [Option.bind_eq_some_iff] at h2
      obtain ⟨ds, h3, h4⟩ := h2
      obtain ⟨a, vs, rfl, sq, r⟩ := seqOf_at s h3 ry
      obtain ⟨e1, e2⟩ := flats_is h4 r
      subst e1
      have ex := flat_is h1 rx
      subst ex
      refine .inr ⟨a, vs, rfl, sq, flat_flatV h1, e2, ?_⟩
      have := now q s rfl
      cases neg
      · simpa using this
      · simpa using this
    · exact q.elim
/-! ## o[i] -/
def bIx : D → D → GS → RE D := fun x y G => match y with
  | .int k => match x with
    | .str s => if s.length ≤ maxLine then match atI s k with
      | some c => .ok (.str [c]) G
      | none => .bad
      else .bad
    | .scr ns => match atI ns k with
      | some i => .ok (.int i) G
      | none => .bad
    | x => match seqOf G x with
      | some ds => match atI ds k with
        | some d => .ok d G
        | none => .bad
      | none => .bad
  | _ => .bad
theorem atI_rd {K : PySem.W.Frag} {ρ : List Addr} {H : Hp} {ds : List D} {vs : List V} {k : Int} {d : D} (r : RDs K ρ H ds vs) (h : atI ds k = some d) : ∃ v, atI vs k = some v ∧ RD K ρ H d v := by
  unfold atI at h ⊢
  rw [← r.length]
  cases e : ixN ds.length k with
  | none => rw [e] at h; cases h
  | some j =>
    rw [e] at h
    exact r.get (i := j) h
theorem sv_ix : Srv2 X (rIx X.K) bIx := by
  intro W ρ G H x y dx dy Q s rx ry q
  unfold bIx at q
  split at q
  · rename_i k
    cases (show _ = _ from ry)
    split at q
    · rename_i l
      cases (show _ = _ from rx)
      split at q
      · rename_i hl
        split at q
        · rename_i c hc
          refine .inr (.inr ⟨S l, k, c, rfl, rfl, by rw [S_len, ← maxLine_eq]; exact hl, by rw [S_cps]; exact hc, ?_⟩)
          exact now q s rfl
        · exact q.elim
      · exact q.elim
    · rename_i ns
      split at q
      · rename_i i hi
        obtain ⟨a, rfl, la⟩ := rx
        refine .inl ⟨a, _, k, V.int i, rfl, rfl, la.sq, ?_, now q s rfl⟩
        unfold atI at hi ⊢
        rw [List.length_map]
        cases e : ixN ns.length k with
        | none => rw [e] at hi; cases hi
        | some j =>
          rw [e] at hi
          simp only [Option.bind_some] at hi ⊢
          rw [List.getElem?_map, hi]; rfl
      · exact q.elim
    · split at q
      · rename_i ds h1
        split at q
        · rename_i d hd
          obtain ⟨a, vs, rfl, sq, r⟩ := seqOf_at s h1 rx
          obtain ⟨v, hv, rv⟩ := atI_rd r hd
          rcases sq with sq | sq
          · exact .inl ⟨a, vs, k, v, rfl, rfl, sq, hv, now q s rv⟩
          · exact .inr (.inl ⟨a, vs, k, v, rfl, rfl, sq, hv, now q s rv⟩)
        · exact q.elim
      · exact q.elim
  · exact q.elim
/-! ## slices -/
def cutL {α : Type} (l : List α) (lo hi : Option Int) : List α := (l.drop (HT.sIx l.length 0 lo)).take (HT.sIx l.length l.length hi - HT.sIx l.length 0 lo)
theorem cutS_S (l : List Nat) (lo hi : Option Int) : cutS (S l) lo hi = S (cutL l lo hi) := by
  unfold cutS cutL
  rw [S_cps, S_len]; rfl
theorem RDs.cutL {K : PySem.W.Frag} {ρ : List Addr} {H : Hp} {ds : List D} {vs : List V} (r : RDs K ρ H ds vs) (lo hi : Option Int) : RDs K ρ H (Dl.cutL ds lo hi) (cutV vs lo hi) := by
  unfold Dl.cutL cutV
  rw [r.length]
  exact (r.drop _).take _
abbrev DO := PEnv → GS → RE (Option Int)
def oNone : DO := fun _ G => .ok none G
def oSome (e : DE) : DO := fun σ G => bindE (e σ G) fun d G1 => match d with | .int i => .ok (some i) G1 | _ => .bad
def tO (K : PySem.W.Frag) (mg : MG) (W : WX) (r : DO) : TO := fun σ H Q => ∃ ρ σd G, Ct K mg ρ σd G σ H ∧ EP' K mg (fun _ _ a b => a = b) (WA W σ) ρ H (r σd G) Q
abbrev POd (X : Cx) (W : WX) (e : Option Expr) (r : DO) : Prop := PO X e (tO X.K X.mg W r)
theorem _root_.L2.PO.le {e : Option Expr} {t t' : TO} (h : PO X e t) (k : ∀ σ H Q, t' σ H Q → t σ H Q) : PO X e t' := ⟨fun pins s σ H Q I q => h.run pins s σ H Q I (k σ H Q q)⟩
theorem le_onone : POd X W none oNone := (po_none).le fun σ H Q ⟨ρ, σd, G, c, h⟩ => h ρ H none (.refl _ _) c.rs rfl
theorem le_osome {e : Expr} {d : DE} (he : PEd X W e d) : POd X W (some e) (oSome d) := by
  refine (po_some he).le fun σ H Q ⟨ρ, σd, G, c, h⟩ => ⟨ρ, σd, G, c, (EP'.bind h).mono fun _ H1 _ _ _ _ _ _ _ ⟨ρ1, G1, a, e1, s1, d1, _, h1⟩ => ?_⟩
  cases a with
  | int i => exact ⟨i, d1, h1 ρ1 H1 _ (.refl _ _) s1 rfl⟩
  | _ => exact h1.elim
def bSl (x : D) (lo hi : Option Int) (G : GS) : RE D := match x with
  | .str s => if s.length ≤ maxLine then .ok (.str (cutL s lo hi)) G else .bad
  | .tup ds => .ok (.tup (cutL ds lo hi)) G
  | x => match lstOf G x with
    | some ds => .ok (.lst (cutL ds lo hi)) G
    | none => .bad
def eSl (e : DE) (lo hi : DO) : DE := fun σ G => bindE (e σ G) fun x G1 => bindE (lo σ G1) fun l G2 => bindE (hi σ G2) fun h G3 => bSl x l h G3
def rSlX (K : PySem.W.Frag) : V → Option Int → Option Int → Hp → VK → Prop := fun x lo hi H Q => rSlS x lo hi H Q ∨ rSlL K x lo hi H Q
theorem sl_X : SlR X (rSlX X.K) := sl_str.or sl_list
theorem le_sl {e : Expr} {lo hi : Option Expr} {d : DE} {dl dh : DO} {p2 pos : Pos} (he : PEd X W e d) (hl : POd X W lo dl) (hh : POd X W hi dh) : PEd X W (.Subscript e (.Slice lo hi none p2) pos) (eSl d dl dh) := by
  refine (pe_slice (sl_X.or sl_tupA) he hl hh).le fun σ H Q ⟨ρ, σd, G, c, h⟩ => ⟨ρ, σd, G, c, (EP'.bind h).mono fun _ H1 _ _ v1 _ _ _ _ ⟨ρ1, G1, a1, e1, s1, d1, _, h1⟩ => ?_⟩
  refine ⟨ρ1, σd, G1, c.ext e1 s1, (EP'.bind h1).mono fun _ H2 _ _ v2 _ _ _ _ ⟨ρ2, G2, a2, e2, s2, d2, _, h2⟩ => ?_⟩
  refine ⟨ρ2, σd, G2, (c.ext e1 s1).ext e2 s2, (EP'.bind h2).mono fun _ H3 _ _ v3 _ _ _ _ ⟨ρ3, G3, a3, e3, s3, d3, _, h3⟩ => ?_⟩
  cases d2; cases d3
  have d1' := (d1.ext e2).ext e3
  unfold bSl at h3
  split at h3
  · rename_i l _
    cases (show _ = _ from d1')
    split at h3
    · rename_i hl
      refine .inl (.inl ⟨S _, rfl, by rw [S_len, ← maxLine_eq]; exact hl, ?_⟩)
      rw [cutS_S]
      exact now h3 s3 rfl
    · exact h3.elim
  · rename_i ds
    obtain ⟨a, vs, rfl, t, r⟩ := d1'
    refine .inr ⟨a, vs, rfl, t.sq, fun hw => ?_, fun hw p hp => ?_⟩
    · have r2 := r.cutL v2 v3
      have e : cutV vs v2 v3 = vs := by
        unfold cutV
        rw [hw.1, hw.2]; simp
      rw [e] at r2
      exact now h3 s3 ⟨a, vs, rfl, t, r2⟩
    · obtain ⟨e, s'⟩ := s3.lay (.tup (cutV vs v2 v3)) hp
      exact h3 _ _ _ e s' ⟨p, _, rfl, .inl ⟨.inl upd_same, s3.fresh hp⟩, (r.cutL v2 v3).ext e⟩
  · split at h3
    · rename_i ds hd
      obtain ⟨a, vs, rfl, hv, r⟩ := lstOf_at s3 hd d1'
      exact .inl (.inr ⟨a, vs, rfl, .of hv, fun p hp => lay_lst h3 s3 (r.cutL _ _) hp⟩)
    · exact h3.elim
end
end Dl
namespace Dl
open PySem L2

section
variable {X : Cx} {W : WX}
/-! ## built-in functions -/
def fLen : List D → GS → RE D := fun xs G => match xs with
  | [.str s] => if s.length ≤ maxLine then .ok (.int s.length) G else .bad
  | [.scr ns] => .ok (.int ns.length) G
  | [x] => match seqOf G x with
    | some ds => .ok (.int ds.length) G
    | none => .bad
  | _ => .bad
theorem rds1 {K : PySem.W.Frag} {ρ : List Addr} {H : Hp} {d : D} {vs : List V} (r : RDs K ρ H [d] vs) : ∃ v, vs = [v] ∧ RD K ρ H d v := by
  obtain ⟨v, r', e, h1, h2⟩ := r
  cases (show _ = _ from h2)
  exact ⟨v, e, h1⟩
theorem rds2 {K : PySem.W.Frag} {ρ : List Addr} {H : Hp} {d e : D} {vs : List V} (r : RDs K ρ H [d, e] vs) : ∃ v u, vs = [v, u] ∧ RD K ρ H d v ∧ RD K ρ H e u := by
  obtain ⟨v, r', e, h1, h2⟩ := r
  obtain ⟨u, e2, h3⟩ := rds1 h2
  subst e2
  exact ⟨v, u, e, h1, h3⟩
theorem sv_len : SrvC X (fun xs H Q => ∃ x n, xs = [x] ∧ LenV X.K x H n ∧ Q (.int n) H) fLen := by
  intro W ρ G H xs dxs Q s r q
  unfold fLen at q
  split at q
  · obtain ⟨v, rfl, r1⟩ := rds1 r
    cases (show _ = _ from r1)
    split at q
    · rename_i hl
      exact ⟨V.str (S _), _, rfl, (show (S _).length ≤ sizeLine ∧ _ = (S _).length from ⟨by rw [S_len, ← maxLine_eq]; exact hl, rfl⟩), by rw [S_len]; exact now q s rfl⟩
    · exact q.elim
  · obtain ⟨v, rfl, r1⟩ := rds1 r
    obtain ⟨a, rfl, la⟩ := r1
    exact ⟨_, _, rfl, .inl ⟨_, la.sq, rfl⟩, by rw [List.length_map]; exact now q s rfl⟩
  · obtain ⟨v, rfl, r1⟩ := rds1 r
    split at q
    · rename_i ds h1
      obtain ⟨a, vs, rfl, sq, rv⟩ := seqOf_at s h1 r1
      refine ⟨_, vs.length, rfl, ?_, by rw [← rv.length]; exact now q s rfl⟩
      rcases sq with sq | sq
      · exact .inl ⟨vs, sq, rfl⟩
      · exact .inr ⟨vs, sq, rfl⟩
    · exact q.elim
  · exact q.elim
def fMax : List D → GS → RE D := fun xs G => match xs with
  | [.int i, .int j] => .ok (.int (if j > i then j else i)) G
  | _ => .bad
def fMin : List D → GS → RE D := fun xs G => match xs with
  | [.int i, .int j] => .ok (.int (if j < i then j else i)) G
  | _ => .bad
theorem sv_max : SrvC X (fun xs H Q => ∃ i j, xs = [.int i, .int j] ∧ Q (.int (if j > i then j else i)) H) fMax := by
  intro W ρ G H xs dxs Q s r q
  unfold fMax at q
  split at q
  · obtain ⟨v, u, rfl, r1, r2⟩ := rds2 r
    cases (show _ = _ from r1); cases (show _ = _ from r2)
    exact ⟨_, _, rfl, now q s rfl⟩
  · exact q.elim
theorem sv_min : SrvC X (fun xs H Q => ∃ i j, xs = [.int i, .int j] ∧ Q (.int (if j < i then j else i)) H) fMin := by
  intro W ρ G H xs dxs Q s r q
  unfold fMin at q
  split at q
  · obtain ⟨v, u, rfl, r1, r2⟩ := rds2 r
    cases (show _ = _ from r1); cases (show _ = _ from r2)
    exact ⟨_, _, rfl, now q s rfl⟩
  · exact q.elim
/-- int(..) of an int, a bool, a text of digits -/
def intOf (s : List Nat) : Option Int := PySem.intText? (S s)
def fInt : List D → GS → RE D := fun xs G => match xs with
  | [.int i] => .ok (.int i) G
  | [.bl b] => .ok (.int (if b then 1 else 0)) G
  | [.str s] => match intOf s with
    | some n => if s.length ≤ 640 then .ok (.int n) G else .bad
    | none => .bad
  | _ => .bad
def rIntA : List V → Hp → VK → Prop := fun xs H Q => ((∃ i, xs = [.int i] ∧ Q (.int i) H) ∨ ∃ k, xs = [.bl k] ∧ Q (.int (if k then 1 else 0)) H) ∨ ∃ a n, xs = [.str a] ∧ PySem.intText? a = some n ∧ a.length ≤ 640 ∧ Q (.int n) H
theorem call_intA : CallR X (.type "int") rIntA := CallR.or call_int1 call_int_str
theorem sv_int : SrvC X rIntA fInt := by
  intro W ρ G H xs dxs Q s r q
  unfold fInt at q
  split at q
  · obtain ⟨v, rfl, r1⟩ := rds1 r
    cases (show _ = _ from r1)
    exact .inl (.inl ⟨_, rfl, now q s rfl⟩)
  · obtain ⟨v, rfl, r1⟩ := rds1 r
    cases (show _ = _ from r1)
    exact .inl (.inr ⟨_, rfl, now q s rfl⟩)
  · obtain ⟨v, rfl, r1⟩ := rds1 r
    cases (show _ = _ from r1)
    split at q
    · rename_i n hn
      split at q
      · rename_i hl
        exact .inr ⟨_, n, rfl, hn, by rw [S_len]; exact hl, now q s rfl⟩
      · exact q.elim
    · exact q.elim
  · exact q.elim
def fAbs : List D → GS → RE D := fun xs G => match xs with
  | [.int i] => .ok (.int (if i < 0 then -i else i)) G
  | _ => .bad
theorem sv_abs : SrvC X (fun xs H Q => ∃ i, xs = [.int i] ∧ Q (.int (if i < 0 then -i else i)) H) fAbs := by
  intro W ρ G H xs dxs Q s r q
  unfold fAbs at q
  split at q
  · obtain ⟨v, rfl, r1⟩ := rds1 r
    cases (show _ = _ from r1)
    exact ⟨_, rfl, now q s rfl⟩
  · exact q.elim
/-- str(..) of an int -/
def strI (i : Int) : List Nat := (toString i : Str).cps.toList
def fStr : List D → GS → RE D := fun xs G => match xs with
  | [.int i] => if i.natAbs.log2 < 1920 then .ok (.str (strI i)) G else .bad
  | _ => .bad
theorem S_back (x : Str) : S x.cps.toList = x := by simp [S]
theorem sv_str : SrvC X (fun xs H Q => ∃ i, xs = [.int i] ∧ i.natAbs.log2 < 1920 ∧ Q (.str (toString i)) H) fStr := by
  intro W ρ G H xs dxs Q s r q
  unfold fStr at q
  split at q
  · obtain ⟨v, rfl, r1⟩ := rds1 r
    cases (show _ = _ from r1)
    split at q
    · rename_i hl
      exact ⟨_, rfl, hl, now q s (by show _ = V.str (S (strI _)); unfold strI; rw [S_back])⟩
    · exact q.elim
  · exact q.elim
/-- tuple(..), list(..) -/
def fTuple : List D → GS → RE D := fun xs G => match xs with
  | [.tup ds] => .ok (.tup ds) G
  | [x] => match lstOf G x with
    | some ds => .ok (.tup ds) G
    | none => .bad
  | _ => .bad
theorem sv_tuple : SrvC X (fun xs H Q => ∃ p ys, xs = [.ref p] ∧ ((SqL X.K H p ys ∧ ∀ l, H l = none → Q (.ref l) (upd H l (.tup ys))) ∨ (SqT X.K H p ys ∧ Q (.ref p) H))) fTuple := by
  intro W ρ G H xs dxs Q s r q
  unfold fTuple at q
  split at q
  · obtain ⟨v, rfl, r1⟩ := rds1 r
    obtain ⟨a, vs, rfl, t, rv⟩ := id r1
    exact ⟨a, vs, rfl, .inr ⟨t.sq, now q s r1⟩⟩
  · obtain ⟨v, rfl, r1⟩ := rds1 r
    split at q
    · rename_i ds h1
      obtain ⟨a, vs, rfl, hv, rv⟩ := lstOf_at s h1 r1
      refine ⟨a, vs, rfl, .inl ⟨.of hv, fun p hp => ?_⟩⟩
      obtain ⟨e, s'⟩ := s.lay (.tup vs) hp
      exact q _ _ _ e s' ⟨p, _, rfl, .inl ⟨.inl upd_same, s.fresh hp⟩, rv.ext e⟩
    · exact q.elim
  · exact q.elim
def fList : List D → GS → RE D := fun xs G => match xs with
  | [x] => match seqOf G x with
    | some ds => .ok (.lst ds) G
    | none => .bad
  | _ => .bad
/-- .. that may be changed -/
def fListN : List D → GS → RE D := fun xs G => match xs with
  | [x] => match seqOf G x with
    | some ds => .ok (.ref G.length) (G ++ [.lst ds])
    | none => .bad
  | _ => .bad
theorem sv_list : SrvC X (fun xs H Q => ∃ p ys, xs = [.ref p] ∧ (SqL X.K H p ys ∨ SqT X.K H p ys) ∧ ∀ l, H l = none → Q (.ref l) (upd H l (.lst ys))) fList := by
  intro W ρ G H xs dxs Q s r q
  unfold fList at q
  split at q
  · obtain ⟨v, rfl, r1⟩ := rds1 r
    split at q
    · rename_i ds h1
      obtain ⟨a, vs, rfl, hv, rv⟩ := seqOf_at s h1 r1
      exact ⟨a, vs, rfl, hv, fun p hp => lay_lst q s rv hp⟩
    · exact q.elim
  · exact q.elim
theorem sv_listN : SrvC X (fun xs H Q => ∃ p ys, xs = [.ref p] ∧ (SqL X.K H p ys ∨ SqT X.K H p ys) ∧ ∀ l, H l = none → Q (.ref l) (upd H l (.lst ys))) fListN := by
  intro W ρ G H xs dxs Q s r q
  unfold fListN at q
  split at q
  · obtain ⟨v, rfl, r1⟩ := rds1 r
    split at q
    · rename_i ds h1
      obtain ⟨a, vs, rfl, hv, rv⟩ := seqOf_at s h1 r1
      exact ⟨a, vs, rfl, hv, fun p hp => new_lst s rv q hp⟩
    · exact q.elim
  · exact q.elim

/-! ## isinstance(x, T), T a built-in type -/
def tyD (G : GS) : D → Option String
  | .non => some "NoneType"
  | .bl _ => some "bool"
  | .int _ => some "int"
  | .str _ => some "str"
  | .tup _ => some "tuple"
  | .lst _ => some "list"
  | .dic _ _ => some "dict"
  | .ref n => match G[n]? with | some (.lst _) => some "list" | _ => none
  | .scr _ => none
def fIsi (T : String) (d : D) (G : GS) : RE D := match tyD G d with
  | some a => match kitB a T with
    | some b => .ok (.bl b) G
    | none => .bad
  | none => .bad
theorem tyX_of {K : PySem.W.Frag} {mg : MG} {ρ : List Addr} {G : GS} {H : Hp} (s : RS K mg ρ G H) {d : D} {v : V} {a : String} (h : tyD G d = some a) (r : RD K ρ H d v) : TyX K H v (.type a) := by
  cases d with
  | non => cases h; cases (show _ = _ from r); exact .base .non
  | bl b => cases h; cases (show _ = _ from r); exact .base (.bl _)
  | int b => cases h; cases (show _ = _ from r); exact .base (.int _)
  | str b => cases h; cases (show _ = _ from r); exact .base (.str _)
  | tup ds =>
    cases h
    obtain ⟨a, vs, rfl, t, rv⟩ := r
    rcases t with ⟨t | ⟨o, t⟩, _⟩ | t
    · exact .base (.tup t)
    · exact .fTuple t
    · rcases t with (t | ⟨o, t⟩) | ⟨o, its, n, hk, hc, _⟩
      · cases t
      · cases t
      · exact .kTuple hk hc
  | lst ds =>
    cases h
    obtain ⟨a, vs, rfl, t, rv⟩ := r
    exact .base (.lst t.1)
  | dic ks ds =>
    cases h
    obtain ⟨a, kvs, rfl, t, _⟩ := r
    exact .base (.dK t)
  | ref n =>
    obtain ⟨p, h1, rfl⟩ := r
    simp only [tyD] at h
    cases g : G[n]? with
    | none => simp [g] at h
    | some ob =>
      cases ob with
      | ins _ _ => simp [g] at h
      | lst ds =>
        simp only [g, Option.some.injEq] at h
        subst h
        obtain ⟨vs, h2, _⟩ := s.at_ n p _ h1 g
        exact .base (.lst h2)
  | scr _ => cases h
theorem le_isi {x y : Str} {T : String} {p p' pos : Pos} {e : Expr} {d : DE} (hg : Gl X x) (hm : X.mg x = none) (hv : bootBuiltins x = some (.builtin "isinstance")) (he : PEd X W e d) (gy : Gl X y) (my : X.mg y = none) (vy : bootBuiltins y = some (.type T)) (ny : y ≠ "__name__" := by decide) (dy : (y == ("__debug__" : Str)) = false := by decide)
    (hn : x ≠ "__name__" := by decide) (hdb : (x == ("__debug__" : Str)) = false := by decide) (h2 : starEach (.Name y p' :: []) X.env = (false, eval (.Name y p') X.env) :: starEach [] X.env := by rfl)
    (h3 : starEach (e :: [.Name y p']) X.env = (false, eval e X.env) :: starEach [.Name y p'] X.env := by rfl) (hpl : (backTo pos (starEach [.Name y p'] X.env)).any (·.1) = false := by rfl) :
    PEd X W (.Call (.Name x p) [e, .Name y p'] [] pos) (eUn (fIsi T) d) := by
  refine (pe_callB call_isi hg hm hv (pa_cons he (pa_cons (pe_bltn gy my vy (v := .ty T) rfl ny dy) pa_nil h2) h3) hn hdb h3 hpl).le fun σ H Q ⟨ρ, σd, G, c, h⟩ => ⟨ρ, σd, G, c, (EP'.bind h).mono fun _ H1 _ _ _ _ _ _ _ ⟨ρ1, G1, a, e1, s1, d1, _, h1⟩ => ?_⟩
  unfold fIsi at h1
  cases q : tyD G1 a with
  | none => rw [q] at h1; exact h1.elim
  | some b =>
    simp only [q] at h1
    cases q2 : kitB b T with
    | none => rw [q2] at h1; exact h1.elim
    | some r =>
      simp only [q2] at h1
      exact ⟨_, _, _, _, r, rfl, .ty T, tyX_of s1 q d1, kit_ty q2, now h1 s1 rfl⟩

/-! ## methods of lists and texts -/
def eMt (kd : GS → D → Bool) (f : D → List D → GS → RE D) (o : DE) (a : DA) : DE := fun σ G => bindE (o σ G) fun x G1 => if kd G1 x = true then bindE (a σ G1) fun xs G2 => f x xs G2 else .bad
def isLst (G : GS) (d : D) : Bool := (lstOf G d).isSome
def isStr (_ : GS) (d : D) : Bool := match d with | .str _ => true | _ => false
def Knd (X : Cx) (T : String) (kd : GS → D → Bool) : Prop := ∀ ρ G H d v, RS X.K X.mg ρ G H → kd G d = true → RD X.K ρ H d v → tyV X.K T v H
theorem knd_lst : Knd X "list" isLst := fun ρ G H d v s h r => by
  unfold isLst at h
  rw [Option.isSome_iff_exists] at h
  obtain ⟨ds, h⟩ := h
  obtain ⟨a, vs, rfl, hv, _⟩ := lstOf_at s h r
  exact .inl ⟨rfl, vs, .of hv⟩
theorem knd_str : Knd X "str" isStr := fun ρ G H d v s h r => by
  cases d <;> simp [isStr] at h
  cases (show _ = _ from r)
  rfl
def SrvM (X : Cx) (r : V → List V → Hp → VK → Prop) (f : D → List D → GS → RE D) : Prop := ∀ (W : XK) ρ G H x xs dx dxs Q, RS X.K X.mg ρ G H → RD X.K ρ H dx x → RDs X.K ρ H dxs xs → EPD X.K X.mg W ρ H (f dx dxs G) Q → r x xs H Q
section
variable {T id : String} {name : Str} {r : V → List V → Hp → VK → Prop} {f : D → List D → GS → RE D} {kd : GS → D → Bool} {o e : Expr} {es : List Expr} {d : DE} {da : DA} {apos cpos : Pos}
theorem le_mt (pa : PlainAttrs T) (slot : Slot T name id) (hty : typeOf (.builtin id) = pure (.type "method_descriptor")) (hm : MtR X id r) (hk : Knd X T kd) (hf : SrvM X r f) (ho : PEd X W o d) (ha : PAd X W (e :: es) da)
    (hbase : attributeBase o name X.env (eval o X.env) = eval o X.env := by rfl)
    (hfew : ((backTo cpos (starEach (e :: es) X.env)).all (fun x => !x.1) && (backToKw cpos (keywordEach [] X.env)).all (fun x => x.1.isSome)
      && decide ((e :: es).length + ([] : List Keyword).length + (if ([] : List Keyword).isEmpty then 0 else 1) < 30)) = true := by rfl)
    (hline : (apos.endLine == cpos.line) = true := by rfl) (hs : starEach (e :: es) X.env = (false, eval e X.env) :: starEach es X.env := by rfl) (hplain : (backTo cpos (starEach es X.env)).any (·.1) = false := by rfl) :
    PEd X W (.Call (.Attribute o name apos) (e :: es) [] cpos) (eMt kd f d da) := by
  refine (pe_bm pa slot hty hm ho ha hbase hfew hline hs hplain).le fun σ H Q ⟨ρ, σd, G, c, h⟩ => ⟨ρ, σd, G, c, (EP'.bind h).mono fun _ H1 _ _ v1 _ _ _ _ ⟨ρ1, G1, a, e1, s1, d1, _, h1⟩ => ?_⟩
  by_cases hd : kd G1 a = true
  · rw [if_pos hd] at h1
    refine ⟨hk ρ1 G1 H1 a v1 s1 hd d1, ρ1, σd, G1, c.ext e1 s1, (EP'.bind h1).mono fun _ H2 _ _ v2 _ _ _ _ ⟨ρ2, G2, a2, e2, s2, d2, _, h2⟩ => ?_⟩
    exact hf _ ρ2 G2 H2 v1 v2 a a2 Q s2 (d1.ext e2) d2 h2
  · rw [if_neg hd] at h1; exact h1.elim
theorem le_mt0 (pa : PlainAttrs T) (slot : Slot T name id) (hty : typeOf (.builtin id) = pure (.type "method_descriptor")) (hm : MtR X id r) (hk : Knd X T kd) (hf : SrvM X r f) (ho : PEd X W o d)
    (hbase : attributeBase o name X.env (eval o X.env) = eval o X.env := by rfl) (hline : (apos.endLine == cpos.line) = true := by rfl) : PEd X W (.Call (.Attribute o name apos) [] [] cpos) (eMt kd f d aNil) := by
  refine (pe_bm0 pa slot hty hm ho hbase hline).le fun σ H Q ⟨ρ, σd, G, c, h⟩ => ⟨ρ, σd, G, c, (EP'.bind h).mono fun _ H1 _ _ v1 _ _ _ _ ⟨ρ1, G1, a, e1, s1, d1, _, h1⟩ => ?_⟩
  by_cases hd : kd G1 a = true
  · rw [if_pos hd] at h1
    exact ⟨hk ρ1 G1 H1 a v1 s1 hd d1, hf _ ρ1 G1 H1 v1 [] a [] Q s1 d1 rfl h1⟩
  · rw [if_neg hd] at h1; exact h1.elim
end
/-- xs.append(y) of a list that may be changed -/
def mAppend : D → List D → GS → RE D := fun x xs G => match x, xs with
  | .ref n, [y] => match G[n]? with
    | some (.lst ds) => if ds.length < maxLine then .ok .non (G.set n (.lst (ds ++ [y]))) else .bad
    | _ => .bad
  | _, _ => .bad
theorem ref_at {K : PySem.W.Frag} {mg : MG} {ρ : List Addr} {G : GS} {H : Hp} (s : RS K mg ρ G H) {n : Nat} {v : V} {ds : List D} (g : G[n]? = some (.lst ds)) (r : RD K ρ H (.ref n) v) : ∃ p vs, v = .ref p ∧ ρ[n]? = some p ∧ H p = some (.lst vs) ∧ RDs K ρ H ds vs := by
  obtain ⟨p, h1, rfl⟩ := r
  obtain ⟨vs, h2, h3⟩ := s.at_ n p _ h1 g
  exact ⟨p, vs, rfl, h1, h2, h3⟩
theorem sm_append : SrvM X rAppend mAppend := by
  intro W ρ G H x xs dx dxs Q s r rs q
  unfold mAppend at q
  split at q
  · rename_i n y
    obtain ⟨v, rfl, rv⟩ := rds1 rs
    split at q
    · rename_i ds g
      obtain ⟨p, vs, rfl, hp, hv, rds⟩ := ref_at s g r
      split at q
      · rename_i hl
        refine ⟨p, vs, v, rfl, rfl, hv, by rw [← rds.length, ← maxLine_eq]; exact hl, ?_⟩
        obtain ⟨e, s'⟩ := s.write (o := .lst (vs ++ [v])) (ob := .lst (ds ++ [y])) hp fun e => ⟨_, upd_same, (rds.ext e).append (RDs.cons (rv.ext e) RDs.nil)⟩
        exact q _ _ _ e s' rfl
      · exact q.elim
    · exact q.elim
  · exact q.elim
end
end Dl
namespace Dl
open PySem L2
/-- the signs of a written text -/
def lit (x : Str) : List Nat := x.cps.toList
theorem S_lit (x : Str) : S (lit x) = x := by simp [S, lit]
def fuel : Nat := 1000000
section
variable {X : Cx} {W : WX}
theorem le_lit {x : Str} {j pos} : PEd X W (.Constant (.str x) j pos) (eCst (.str (lit x))) := le_str (S_lit x).symm
theorem le_gint1 {x : Str} {i : Int} {pos : Pos} (hg : Gl X x) (hm : ∃ t, X.mg x = some (.int i t)) (hd : (x == ("__debug__" : Str)) = false := by decide) : PEd X W (.Name x pos) (eCst (.int i)) := by
  obtain ⟨t, hm⟩ := hm
  exact le_gint hg hm hd
theorem le_gstr1 {x y : Str} {pos : Pos} (hg : Gl X x) (hm : ∃ t, X.mg x = some (.str y t)) (hd : (x == ("__debug__" : Str)) = false := by decide) : PEd X W (.Name x pos) (eCst (.str (lit y))) := by
  obtain ⟨t, hm⟩ := hm
  exact le_gstr hg hm (S_lit y).symm hd
def bNeg : D → GS → RE D := fun x G => match x with | .int i => .ok (.int (-i)) G | _ => .bad
theorem le_neg {a : Expr} {d : DE} {pos : Pos} (ha : PEd X W a d) : PEd X W (.UnaryOp .USub a pos) (eUn bNeg d) := by
  refine (pe_un un_neg ha).le fun σ H Q ⟨ρ, σd, G, c, h⟩ => ⟨ρ, σd, G, c, (EP'.bind h).mono fun _ H1 _ _ _ _ _ _ _ ⟨ρ1, G1, a, e1, s1, d1, _, h1⟩ => ?_⟩
  cases a with
  | int i => exact ⟨i, d1, now h1 s1 rfl⟩
  | _ => exact h1.elim
/-- a value of truth that comes of a PC -/
theorem le_tpc {op : CmpOp} {a b : Expr} {t : TE} {d : DE} {pos : Pos} (h : PC X op a b t) (h1 : behindInMarks op b = false) (k : ∀ σ H Q, tE X.K X.mg W d σ H Q → t σ H Q) : PTd X W (.Compare a [op] [b] pos) (dT d) := by
  refine (pt_cmp h h1).le fun σ H Q ⟨ρ, σd, G, c, h⟩ => k σ H _ ⟨ρ, σd, G, c, (EP'.bind h).mono fun ρ1 H1 G1 a v e1 s1 d1 _ ⟨ρ2, G2, a2, e2, s2, d2, _, h2⟩ => ?_⟩
  cases a2 with
  | bl b => exact ⟨b, d2, h2 ρ2 H1 b (.refl _ _) s2 rfl⟩
  | _ => exact h2.elim
theorem isN_le {a : Expr} {da : DE} (σ : L2.St) (H : Hp) (Q : VK) (h : tE X.K X.mg W (eUn (cIsN false) da) σ H Q) : tIsN (tE X.K X.mg W da) σ H Q := by
  obtain ⟨ρ, σd, G, c, h⟩ := h
  refine ⟨ρ, σd, G, c, (EP'.bind h).mono fun _ H1 _ _ _ _ _ _ _ ⟨ρ1, G1, a, e1, s1, d1, _, h1⟩ => ?_⟩
  have := now (EPD.of_eq h1 (cIsN_ok false G1 d1)) s1 rfl
  simpa using this
theorem notN_le {a : Expr} {da : DE} (σ : L2.St) (H : Hp) (Q : VK) (h : tE X.K X.mg W (eUn (cIsN true) da) σ H Q) : tNotN (tE X.K X.mg W da) σ H Q := by
  obtain ⟨ρ, σd, G, c, h⟩ := h
  refine ⟨ρ, σd, G, c, (EP'.bind h).mono fun _ H1 _ _ _ _ _ _ _ ⟨ρ1, G1, a, e1, s1, d1, _, h1⟩ => ?_⟩
  have := now (EPD.of_eq h1 (cIsN_ok true G1 d1)) s1 rfl
  simpa using this
theorem le_tisN {a : Expr} {da : DE} {j pos pos'} (ha : PEd X W a da) : PTd X W (.Compare a [.Is] [.Constant .none j pos'] pos) (dT (eUn (cIsN false) da)) := le_tpc (pc_isN ha) (by rfl) (isN_le (a := a))
theorem le_tnotN {a : Expr} {da : DE} {j pos pos'} (ha : PEd X W a da) : PTd X W (.Compare a [.IsNot] [.Constant .none j pos'] pos) (dT (eUn (cIsN true) da)) := le_tpc (pc_notN ha) (by rfl) (notN_le (a := a))
/-- x += y : ints, texts -/
def bIadd : D → D → GS → RE D := fun x y G => match x, y with
  | .int i, .int j => .ok (.int (i + j)) G
  | .str a, .str b => if a.length + b.length ≤ maxLine then .ok (.str (a ++ b)) G else .bad
  | _, _ => .bad
def rIaddA : R2 := fun x y H Q => rI0 (fun i j => .int (i + j)) x y H Q ∨ (∃ i j, x = .str i ∧ y = .str j ∧ i.length + j.length ≤ sizeLine ∧ Q (.str (i ++ j)) H)
theorem iop_addA : OpR X (inplaceOp .Add) rIaddA := iop_add.or iop_add_str
theorem sv_iadd : Srv2 X rIaddA bIadd := by
  intro W ρ G H x y dx dy Q s rx ry q
  unfold bIadd at q
  split at q
  · cases (show _ = _ from rx); cases (show _ = _ from ry)
    exact .inl ⟨_, _, rfl, rfl, now q s rfl⟩
  · cases (show _ = _ from rx); cases (show _ = _ from ry)
    split at q
    · rename_i c
      refine .inr ⟨_, _, rfl, rfl, by rw [S_len, S_len, ← maxLine_eq]; exact c, ?_⟩
      rw [S_app]
      exact now q s rfl
    · exact q.elim
  · exact q.elim
/-- + whose result may be changed -/
def bAddN : D → D → GS → RE D := fun x y G => match x, y with
  | .int i, .int j => .ok (.int (i + j)) G
  | .str a, .str b => if a.length + b.length ≤ maxLine then .ok (.str (a ++ b)) G else .bad
  | x, y => match lstOf G x, lstOf G y with
    | some a, some b => if a.length + b.length ≤ maxLine then .ok (.ref G.length) (G ++ [.lst (a ++ b)]) else .bad
    | _, _ => .bad
theorem sv_addN : Srv2 X rAddA bAddN := by
  intro W ρ G H x y dx dy Q s rx ry q
  unfold bAddN at q
  split at q
  · cases (show _ = _ from rx); cases (show _ = _ from ry)
    exact .inl ⟨_, _, rfl, rfl, now q s rfl⟩
  · rename_i a b
    cases (show _ = _ from rx); cases (show _ = _ from ry)
    split at q
    · rename_i c
      refine .inr (.inl ⟨_, _, rfl, rfl, by rw [S_len, S_len, ← maxLine_eq]; exact c, ?_⟩)
      rw [S_app]
      exact now q s rfl
    · exact q.elim
  · split at q
    · rename_i a b h1 h2
      obtain ⟨l, xs, rfl, hl, r1⟩ := lstOf_at s h1 rx
      obtain ⟨m, ys, rfl, hm, r2⟩ := lstOf_at s h2 ry
      split at q
      · rename_i c
        refine .inr (.inr ⟨l, m, xs, ys, rfl, rfl, hl, hm, by rw [← r1.length, ← r2.length, ← maxLine_eq]; exact c, fun p hp => new_lst s (r1.append r2) q hp⟩)
      · exact q.elim
    · exact q.elim
end
theorem fnX_bad {P : Program} {w : World} {K : PySem.W.Frag} {mg : MG} {base : Heap} {x qual : Str} {params : Arguments} {body : List Stmt} {scope : Scope} {ps : List Str} {k : Nat}
    (F : ∃ fd, FunD K x qual params body scope [] [] (He.ga K x) fd) (g : mg x = some (.ref (He.ga K x)))
    (hb : ∀ (kV doc pm : Value) (an : Option Addr) (cdv ct : Value) (us : List Value), us.length = ps.length → bindArgs (PySem.W.fnOf x qual params body scope .none kV doc pm an cdv ct) ⟨us, []⟩ = pure (ps.zip us)) : FnX P w K mg base x k ps (fun _ _ => .bad) := by
  obtain ⟨fd, F⟩ := F
  exact ⟨fd, ⟨fun vs H Q E ⟨ρ, ds, G, s, r, e, _⟩ => by rw [← e, r.length], fun A outer s H args us vs Q E hr he hb hv ⟨ρ, ds, G, _, _, _, h⟩ => h.elim⟩, F.bindsN hb, g, F.kp, F.bindsA hb, FunD_lk F⟩
/-! ## the end of a law -/
theorem walk_end {l : PySem.W.OpenLaw} {n k : Nat} {q : Program} {loose : List Str} {XP : (Str → Option Value) → Heap → Prop} {YP : World → Heap → Prop} {d : DefRec} {F : DF}
    (hn : l.most = some n) (hn2 : n ≤ sizeLine) (hdf : d.params.defaults = []) (hr : Room k callerA)
    (hF : ∀ (w : World) (mg : Str → Option Value) (fa : Addr) (h : Heap), YP w h → h.Ns mainGlobals mg → mg d.name = some (.ref fa) →
      ∃ (K : PySem.W.Frag), K.In h ∧ mg "law" = some (.ref fa) ∧ ∀ base : Heap, FnX l.prog w K mg base "law" k ["script"] F)
    (holds : ∀ ns : List Int, ns.length ≤ n → ∃ G, F [.scr ns] [] = .ok (.bl true) G) :
    PySem.W.WalkO q loose XP YP l.row.toRowW d [] (fun f vs => PySem.call f vs) := by
  refine Att.attach_call hn hdf fun w s₀ s₁ mg mb fa o pm cd doc a vs ns G Y ho hd hcd hmg hobj hints hlen hg => ?_
  obtain ⟨K, KX, hl, hX⟩ := hF w mg fa _ Y G.T.g hmg
  obtain ⟨fd, h1, _, h3, _, h5, oc, od, osl, h6⟩ := hX s₁.heap
  have ef := Option.some.inj (hl.symm.trans h3)
  injection ef with ef
  have hF : ∀ base : Heap, K.In base → base.Ns mainGlobals mg → FnOk l.prog w K mg base (L2.CX l.prog w) k fa fd ["script"] (spF K mg 1 F) := fun base _ _ => by
    obtain ⟨fd2, g1, _, _, _, _, oc2, od2, osl2, g6⟩ := hX base
    rw [h6] at g6
    have e := Option.some.inj g6
    injection e with _ _ e _
    injection e with e
    rw [ef, e]
    exact g1
  have hb : ∀ (s : Shared) (u : Value), BindsTo s fd ⟨[u], []⟩ [("script", u)] := fun s u => h5 s [u] rfl
  refine law_call KX G.T.g G.T.b G.T.builtins G.T.nolimit hg hobj hints (Nat.le_trans hlen hn2) hr hF hb (fun H hO hS => ?_) fun H e s' h => ?_
  · obtain ⟨G, e⟩ := holds ns hlen
    refine ⟨[], [.scr ns], [], ⟨List.nodup_nil, rfl, fun i a ob h => by simp at h⟩, ⟨_, _, rfl, ⟨a, rfl, ?_⟩, rfl⟩, rfl, ?_⟩
    · rcases hS with hS | hS
      · exact .inl ⟨hS, by simp⟩
      · exact .inr (.inr hS)
    · rw [e]
      exact fun ρ' H' v _ _ r => r
  · obtain ⟨_, _, _, _, _, _, _, _, _, _, _, _, z⟩ := h
    exact z.elim
end Dl
namespace Dl
open PySem L2
/-! ## places -/
theorem ixN_nat (n k : Nat) : ixN n (k : Int) = if k < n then some k else none := by
  unfold ixN
  by_cases h : k < n
  · rw [if_pos (by omega), if_pos (by omega), if_pos h]; simp
  · rw [if_pos (by omega), if_neg (by omega), if_neg h]
theorem ixN_lit (n k : Nat) : ixN n (no_index (OfNat.ofNat k : Int)) = if k < n then some k else none := ixN_nat n k
theorem ixN_0 (n : Nat) : ixN n 0 = if 0 < n then some 0 else none := ixN_nat n 0
theorem ixN_1 (n : Nat) : ixN n 1 = if 1 < n then some 1 else none := ixN_nat n 1
theorem atI_natC {α : Type} (xs : List α) (k : Nat) : atI xs (k : Int) = xs[k]? := by
  unfold atI
  rw [ixN_nat]
  by_cases h : k < xs.length
  · rw [if_pos h]; rfl
  · rw [if_neg h]
    exact (List.getElem?_eq_none (by omega)).symm
theorem atI_lit {α : Type} (xs : List α) (k : Nat) : atI xs (no_index (OfNat.ofNat k : Int)) = xs[k]? := atI_natC xs k
theorem atI_0 {α : Type} (xs : List α) : atI xs 0 = xs[0]? := atI_natC xs 0
theorem atI_1 {α : Type} (xs : List α) : atI xs 1 = xs[1]? := atI_natC xs 1
theorem atI_neg1 {α : Type} (xs : List α) : atI xs (-1) = xs.getLast? := by
  unfold atI ixN
  rw [if_neg (by omega)]
  cases xs with
  | nil => rfl
  | cons a l =>
    have e : ((-1 : Int) + ((a :: l).length : Nat)).toNat = l.length := by rw [List.length_cons]; omega
    rw [if_pos (by rw [List.length_cons]; omega), e, List.getLast?_eq_getElem?]
    rfl
theorem atI_toNat {α : Type} (xs : List α) {k : Int} (h : 0 ≤ k) : atI xs k = xs[k.toNat]? := by
  have := atI_natC xs k.toNat
  rwa [Int.toNat_of_nonneg h] at this
/-! ## no refs -/
mutual
def nrD : D → Bool
  | .non => true
  | .bl _ => true
  | .int _ => true
  | .str _ => true
  | .tup ds => nrDs ds
  | .lst ds => nrDs ds
  | .dic _ ds => nrDs ds
  | .ref _ => false
  | .scr _ => true
def nrDs : List D → Bool
  | [] => true
  | d :: ds => nrD d && nrDs ds
end
mutual
theorem subD_nr {f : Nat → Option D} : ∀ {d : D}, nrD d = true → subD f d = some d
  | .non, _ => rfl
  | .bl _, _ => rfl
  | .int _, _ => rfl
  | .str _, _ => rfl
  | .tup ds, h => by simp only [subD, subDs_nr (by simpa only [nrD] using h), Option.map_some]
  | .lst ds, h => by simp only [subD, subDs_nr (by simpa only [nrD] using h), Option.map_some]
  | .dic _ ds, h => by simp only [subD, subDs_nr (by simpa only [nrD] using h), Option.map_some]
  | .scr _, _ => rfl
  | .ref _, h => by simp [nrD] at h
theorem subDs_nr {f : Nat → Option D} : ∀ {ds : List D}, nrDs ds = true → subDs f ds = some ds
  | [], _ => rfl
  | d :: ds, h => by
    simp only [nrDs, Bool.and_eq_true] at h
    simp only [subDs, subD_nr h.1, subDs_nr h.2]
end
theorem nrDs_all : ∀ {ds : List D}, nrDs ds = true ↔ ∀ d ∈ ds, nrD d = true
  | [] => by simp [nrDs]
  | d :: ds => by simp [nrDs, nrDs_all (ds := ds)]
theorem nrDs_app {ds es : List D} : nrDs (ds ++ es) = (nrDs ds && nrDs es) := by
  induction ds with
  | nil => simp [nrDs]
  | cons d ds ih => simp [nrDs, ih, Bool.and_assoc]
theorem nrDs_ints (ns : List Int) : nrDs (ns.map D.int) = true := nrDs_all.mpr fun d h => by
  obtain ⟨n, _, rfl⟩ := List.mem_map.mp h; rfl
/-! ## leaving a def -/
theorem finish_same {α β : Type} {sub : (Nat → Option D) → α → Option α} {G G' : GS} {d : α} {k : α → GS → RE β} (h : G'.length = G.length) : finish sub G d G' k = k d G' := by
  unfold finish; rw [if_pos h]
theorem finish_own {α β : Type} {sub : (Nat → Option D) → α → Option α} {G t : GS} {d d' : α} {k : α → GS → RE β} (ht : t ≠ []) (h : sub (sealR 6 G.length (G ++ t)) d = some d') : finish sub G d (G ++ t) k = k d' G := by
  unfold finish
  rw [if_neg (by simp [ht]), List.take_left' rfl, beqG_refl, Bool.true_or, if_pos rfl, h]
/-- data without refs -/
theorem finish_nr {β : Type} {G t : GS} {d : D} {k : D → GS → RE β} (h : nrD d = true) : finish subD G d (G ++ t) k = k d G := by
  cases t with
  | nil => rw [List.append_nil]; exact finish_same rfl
  | cons a t => exact finish_own (by simp) (subD_nr h)
/-- a list of its own -/
theorem finish_ref {β : Type} {G t : GS} {n : Nat} {ds : List D} {k : D → GS → RE β} (hn : t[n]? = some (.lst ds)) (h : nrDs ds = true) : finish subD G (.ref (G.length + n)) (G ++ t) k = k (.lst ds) G := by
  refine finish_own (by intro e; subst e; simp at hn) ?_
  simp only [subD, sealR]
  rw [if_neg (by omega), List.getElem?_append_right (by omega)]
  simp only [Nat.add_sub_cancel_left, hn, subDs_nr h, Option.map_some]
theorem finish_ref0 {β : Type} {G t : GS} {ds : List D} {k : D → GS → RE β} (h : nrDs ds = true) : finish subD G (.ref G.length) (G ++ .lst ds :: t) k = k (.lst ds) G := finish_ref (n := 0) rfl h
/-- an object of the caller's was changed as well -/
theorem finish_set {β : Type} {G G1 t : GS} {d d' : D} {k : D → GS → RE β} (hl : G1.length = G.length) (hc : clsG G.length G1 = true) (ht : t ≠ []) (h : subD (sealR 6 G.length (G1 ++ t)) d = some d') : finish subD G d (G1 ++ t) k = k d' G1 := by
  unfold finish
  have e : (G1 ++ t).take G.length = G1 := by rw [← hl, List.take_left' rfl]
  rw [if_neg (by simp [ht, hl]), e, hc, Bool.or_true, if_pos rfl, h]
theorem finish_set_nr {β : Type} {G G1 t : GS} {d : D} {k : D → GS → RE β} (hl : G1.length = G.length) (hc : clsG G.length G1 = true) (h : nrD d = true) : finish subD G d (G1 ++ t) k = k d G1 := by
  cases t with
  | nil => rw [List.append_nil]; exact finish_same hl
  | cons a t => exact finish_set hl hc (by simp) (subD_nr h)
theorem finish_set_ref {β : Type} {G G1 t : GS} {n : Nat} {ds : List D} {k : D → GS → RE β} (hl : G1.length = G.length) (hc : clsG G.length G1 = true) (hn : t[n]? = some (.lst ds)) (h : nrDs ds = true) : finish subD G (.ref (G.length + n)) (G1 ++ t) k = k (.lst ds) G1 := by
  refine finish_set hl hc (by intro e; subst e; simp at hn) ?_
  simp only [subD, sealR]
  rw [if_neg (by omega), ← hl, List.getElem?_append_right (by omega)]
  simp only [Nat.add_sub_cancel_left, hn, subDs_nr h, Option.map_some]
/-! ## loops -/
/-- every turn goes on -/
theorem for_inv {g : DG} {body : DS} (Inv : Nat → PEnv → GS → Prop) : ∀ (ds : List D) (i : Nat) (σ : PEnv) (G : GS), Inv i σ G →
    (∀ j d σ G, ds[j]? = some d → Inv (i + j) σ G → ∃ σ1 σ' G', g d σ = some σ1 ∧ (body σ1 G = .nx σ' G' ∨ body σ1 G = .cont σ' G') ∧ Inv (i + j + 1) σ' G') →
    ∃ σ' G', forL g body ds σ G = .nx σ' G' ∧ Inv (i + ds.length) σ' G'
  | [], i, σ, G, h, _ => ⟨σ, G, rfl, h⟩
  | d :: ds, i, σ, G, h, st => by
    obtain ⟨σ1, σ', G', e1, e2, h2⟩ := st 0 d σ G rfl h
    obtain ⟨σ2, G2, e3, h3⟩ := for_inv Inv ds (i + 1) σ' G' h2 fun j d' σ G hd hi => by
      have := st (j + 1) d' σ G (by simpa using hd) (by rw [show i + (j + 1) = i + 1 + j by omega]; exact hi)
      rw [show i + (j + 1) + 1 = i + 1 + j + 1 by omega] at this
      exact this
    refine ⟨σ2, G2, ?_, by rw [List.length_cons, show i + (ds.length + 1) = i + 1 + ds.length by omega]; exact h3⟩
    simp only [forL, e1]
    rcases e2 with e2 | e2
    · rw [e2, turnR_nx]; exact e3
    · rw [e2, turnR_cont]; exact e3
/-- a turn may end the loop, in a way that is as wished -/
theorem for_any {g : DG} {body : DS} (Inv : Nat → PEnv → GS → Prop) (Out : RSt → Prop) : ∀ (ds : List D) (i : Nat) (σ : PEnv) (G : GS), Inv i σ G →
    (∀ j d σ G, ds[j]? = some d → Inv (i + j) σ G → ∃ σ1, g d σ = some σ1 ∧ ((∃ σ' G', (body σ1 G = .nx σ' G' ∨ body σ1 G = .cont σ' G') ∧ Inv (i + j + 1) σ' G') ∨ ((∃ σ' G', body σ1 G = .brk σ' G' ∧ Out (.nx σ' G')) ∨ (∃ d G', body σ1 G = .ret d G' ∧ Out (.ret d G')) ∨ (∃ c fs σ' G', body σ1 G = .exc c fs σ' G' ∧ Out (.exc c fs σ' G'))))) →
    (∀ σ' G', Inv (i + ds.length) σ' G' → Out (.nx σ' G')) → Out (forL g body ds σ G)
  | [], i, σ, G, h, _, fin => fin σ G h
  | d :: ds, i, σ, G, h, st, fin => by
    obtain ⟨σ1, e1, q⟩ := st 0 d σ G rfl h
    simp only [forL, e1]
    rcases q with ⟨σ', G', e2, h2⟩ | q
    · have rest := for_any Inv Out ds (i + 1) σ' G' h2 (fun j d' σ G hd hi => by
        have := st (j + 1) d' σ G (by simpa using hd) (by rw [show i + (j + 1) = i + 1 + j by omega]; exact hi)
        rw [show i + (j + 1) + 1 = i + 1 + j + 1 by omega] at this
        exact this) (fun σ' G' h => fin σ' G' (by rw [List.length_cons, show i + (ds.length + 1) = i + 1 + ds.length by omega]; exact h))
      rcases e2 with e2 | e2
      · rw [e2, turnR_nx]; exact rest
      · rw [e2, turnR_cont]; exact rest
    · rcases q with ⟨σ', G', e, h⟩ | ⟨d, G', e, h⟩ | ⟨c, fs, σ', G', e, h⟩
      · rw [e, turnR_brk]; exact h
      · rw [e, turnR_ret]; exact h
      · rw [e, turnR_exc]; exact h
theorem rngD_get {lo : Int} {n j : Nat} {d : D} (h : (rngD lo n)[j]? = some d) : j < n ∧ d = .int (lo + (j : Int)) := by
  have hj : j < n := by
    have := (List.getElem?_eq_some_iff.mp h).1
    simpa [rngD] using this
  simp [rngD, hj] at h
  exact ⟨hj, h.symm⟩
theorem rngD_len (lo : Int) (n : Nat) : (rngD lo n).length = n := by simp [rngD]
theorem rng1_ok {n : Int} {G : GS} (h1 : -(2 ^ 62) ≤ n) (h2 : n < 2 ^ 62) : rng1 [.int n] G = .ok (rngD 0 n.toNat) G := by
  have e : i62 n = true := by simp only [i62_eq, Bool.and_eq_true, decide_eq_true_eq]; exact ⟨h1, h2⟩
  simp only [rng1, e, if_true]
theorem rng2_ok {m n : Int} {G : GS} (h1 : -(2 ^ 62) ≤ m) (h2 : m < 2 ^ 62) (h3 : -(2 ^ 62) ≤ n) (h4 : n < 2 ^ 62) : rng2 [.int m, .int n] G = .ok (rngD m (n - m).toNat) G := by
  have e : (i62 m && i62 n) = true := by simp only [i62_eq, Bool.and_eq_true, decide_eq_true_eq]; exact ⟨⟨h1, h2⟩, h3, h4⟩
  simp only [rng2, e, if_true]
/-- while: an invariant by the measure -/
theorem while_inv {c : DT} {b : DS} (Inv : Nat → PEnv → GS → Prop) : ∀ (m n : Nat) (σ : PEnv) (G : GS), m < n → Inv m σ G →
    (∀ m σ G, Inv m σ G → ∃ k G1, c σ G = .ok k G1 ∧ (k = true → ∃ σ' G' m', (b σ G1 = .nx σ' G' ∨ b σ G1 = .cont σ' G') ∧ m' < m ∧ Inv m' σ' G')) →
    ∃ σ' G' G0 m', sWhile n c b σ G = .nx σ' G' ∧ Inv m' σ' G0 ∧ c σ' G0 = .ok false G'
  | m, 0, σ, G, h, _, _ => absurd h (Nat.not_lt_zero _)
  | m, n + 1, σ, G, h, hi, st => by
    obtain ⟨k, G1, e1, q⟩ := st m σ G hi
    simp only [sWhile, e1, bindS_ok]
    cases k with
    | false => exact ⟨σ, G1, G, m, rfl, hi, e1⟩
    | true =>
      obtain ⟨σ', G', m', e2, hm, h2⟩ := q rfl
      obtain ⟨σ2, G2, G0, m2, e3, h3⟩ := while_inv Inv m' n σ' G' (by omega) h2 st
      refine ⟨σ2, G2, G0, m2, ?_, h3⟩
      rw [if_pos rfl]
      rcases e2 with e2 | e2
      · rw [e2, turnR_nx]; exact e3
      · rw [e2, turnR_cont]; exact e3
theorem get_new {o : Ob} {G t : GS} : (G ++ o :: t)[G.length]? = some o := by rw [List.getElem?_append_right (Nat.le_refl _)]; simp
theorem set_new {o o' : Ob} {G t : GS} : (G ++ o :: t).set G.length o' = G ++ o' :: t := by rw [List.set_append_right _ _ (Nat.le_refl _)]; simp
theorem get_new1 {o a : Ob} {G t : GS} : (G ++ a :: o :: t)[G.length + 1]? = some o := by rw [List.getElem?_append_right (by omega)]; simp
theorem set_new1 {o o' a : Ob} {G t : GS} : (G ++ a :: o :: t).set (G.length + 1) o' = G ++ a :: o' :: t := by rw [List.set_append_right _ _ (by omega)]; simp
theorem le_0 : (0 ≤ maxLine) = True := by simp
theorem le_1 : (1 ≤ maxLine) = True := by simp [maxLine]
theorem le_2 : (2 ≤ maxLine) = True := by simp [maxLine]
theorem le_3 : (3 ≤ maxLine) = True := by simp [maxLine]
theorem le_4 : (4 ≤ maxLine) = True := by simp [maxLine]
theorem le_5 : (5 ≤ maxLine) = True := by simp [maxLine]
theorem le_6 : (6 ≤ maxLine) = True := by simp [maxLine]
theorem le_7 : (7 ≤ maxLine) = True := by simp [maxLine]
theorem le_8 : (8 ≤ maxLine) = True := by simp [maxLine]
theorem cIn_one (c : Nat) (cs : List Nat) (G : GS) (neg : Bool) : cIn neg (.str [c]) (.str cs) G = .ok (.bl (xor neg (decide (c ∈ cs)))) G := by
  simp only [cIn, subS_one]
theorem cEq_int (neg : Bool) (i j : Int) (G : GS) : cEqB neg (.int i) (.int j) G = .ok (.bl (xor neg (decide (i = j)))) G := rfl
theorem cEq_str (neg : Bool) (i j : List Nat) (G : GS) : cEqB neg (.str i) (.str j) G = .ok (.bl (xor neg (decide (i = j)))) G := rfl
theorem cEq_bl (neg : Bool) (i j : Bool) (G : GS) : cEqB neg (.bl i) (.bl j) G = .ok (.bl (xor neg (decide (i = j)))) G := rfl
theorem fdivL (i j : Int) (h : 0 < j ∧ j < 1073741824) (G : GS) : bFdiv (.int i) (.int j) G = .ok (.int (i / j)) G := by simp only [bFdiv]; rw [if_pos h]
theorem modL (i j : Int) (h : 0 < j) (G : GS) : bMod (.int i) (.int j) G = .ok (.int (i % j)) G := by simp only [bMod]; rw [if_pos h]
theorem cmul_l {i j : Int} (h : (decide (-(2 ^ 64) < i) && decide (i < 2 ^ 64)) = true) : cmul i j = true := by rw [cmul_eq]; rw [h]; rfl
theorem cmul_r {i j : Int} (h : (decide (-(2 ^ 64) < j) && decide (j < 2 ^ 64)) = true) : cmul i j = true := by rw [cmul_eq]; rw [h, Bool.or_true]
theorem mulL (i j : Int) (h : -(2 ^ 64) < i ∧ i < 2 ^ 64) (G : GS) : bMul (.int i) (.int j) G = .ok (.int (i * j)) G := by simp only [bMul]; rw [cmul_l (by rw [decide_eq_true h.1, decide_eq_true h.2]; rfl)]; rfl
theorem mulR (i j : Int) (h : -(2 ^ 64) < j ∧ j < 2 ^ 64) (G : GS) : bMul (.int i) (.int j) G = .ok (.int (i * j)) G := by simp only [bMul]; rw [cmul_r (by rw [decide_eq_true h.1, decide_eq_true h.2]; rfl)]; rfl
theorem fLen_seq {G : GS} {a : D} {es : List D} (h : seqOf G a = some es) : fLen [a] G = .ok (.int es.length) G := by
  cases a with
  | str s => simp [seqOf, lstOf] at h
  | scr s => simp [seqOf, lstOf] at h
  | _ => simp only [fLen, h]
theorem bIx_seq {G : GS} {a d : D} {es : List D} {j : Nat} (h : seqOf G a = some es) (hd : es[j]? = some d) : bIx a (.int j) G = .ok d G := by
  cases a with
  | str s => simp [seqOf, lstOf] at h
  | scr s => simp [seqOf, lstOf] at h
  | _ => simp only [bIx, h, atI_natC, hd]
theorem mapM_get {α β : Type} {f : α → Option β} : ∀ {as : List α} {bs : List β}, as.mapM f = some bs → as.length = bs.length ∧ ∀ (j : Nat) (a : α), as[j]? = some a → ∃ b, bs[j]? = some b ∧ f a = some b
  | [], bs, h => by simp at h; subst h; exact ⟨rfl, fun j a h => by simp at h⟩
  | a :: as, bs, h => by
    obtain ⟨b, bs', h1, h2, rfl⟩ := mapM_cons' h
    obtain ⟨i1, i2⟩ := mapM_get h2
    refine ⟨by simp [i1], fun j x hx => ?_⟩
    cases j with
    | zero => simp at hx; subst hx; exact ⟨b, rfl, h1⟩
    | succ j => simpa using i2 j x (by simpa using hx)
theorem py_list {k : Nat} {G : GS} {a : D} {ps : List PyData} (h : pyD (k + 1) G a = some (.list ps)) : ∃ es, seqOf G a = some es ∧ tyD G a = some "list" ∧ es.mapM (pyD k G) = some ps := by
  cases a with
  | lst ds =>
    simp only [pyD, Option.map_eq_some_iff] at h
    obtain ⟨qs, h1, e⟩ := h
    injection e with e; subst e
    exact ⟨ds, rfl, rfl, h1⟩
  | ref n =>
    simp only [pyD] at h
    cases g : G[n]? with
    | none => simp [g] at h
    | some ob =>
      cases ob with
      | ins _ _ => simp [g] at h
      | lst ds =>
        simp only [g, Option.map_eq_some_iff] at h
        obtain ⟨qs, h1, e⟩ := h
        injection e with e; subst e
        exact ⟨ds, by simp [seqOf, lstOf, g], by simp [tyD, g], h1⟩
  | tup ds =>
    simp only [pyD, Option.map_eq_some_iff] at h
    obtain ⟨qs, h1, e⟩ := h
    cases e
  | _ => simp [pyD] at h
theorem py_tuple {k : Nat} {G : GS} {a : D} {ps : List PyData} (h : pyD (k + 1) G a = some (.tuple ps)) : ∃ es, seqOf G a = some es ∧ tyD G a = some "tuple" ∧ es.mapM (pyD k G) = some ps := by
  cases a with
  | tup ds =>
    simp only [pyD, Option.map_eq_some_iff] at h
    obtain ⟨qs, h1, e⟩ := h
    injection e with e; subst e
    exact ⟨ds, rfl, rfl, h1⟩
  | lst ds =>
    simp only [pyD, Option.map_eq_some_iff] at h
    obtain ⟨qs, h1, e⟩ := h
    cases e
  | ref n =>
    simp only [pyD] at h
    cases g : G[n]? with
    | none => simp [g] at h
    | some ob =>
      cases ob with
      | ins _ _ => simp [g] at h
      | lst ds =>
        simp only [g, Option.map_eq_some_iff] at h
        obtain ⟨qs, h1, e⟩ := h
        cases e
  | _ => simp [pyD] at h
theorem py_flat {k : Nat} {G : GS} {a : D} : (pyD (k + 1) G a = some .none → a = .non) ∧ (∀ b, pyD (k + 1) G a = some (.bool b) → a = .bl b) ∧ (∀ i, pyD (k + 1) G a = some (.int i) → a = .int i) ∧ (∀ s, pyD (k + 1) G a = some (.str s) → ∃ l, a = .str l ∧ s = S l) := by
  cases a with
  | non => simp [pyD]
  | bl b => simp [pyD]
  | int i => simp [pyD]
  | str s => simp [pyD, eq_comm]
  | tup ds => simp [pyD]
  | lst ds => simp [pyD]
  | dic _ _ => simp [pyD]
  | scr _ => simp [pyD]
  | ref n =>
    simp only [pyD]
    cases g : G[n]? with
    | none => simp
    | some ob => cases ob <;> simp
theorem isi_of {G : GS} {a : D} {t T : String} {b : Bool} (h : tyD G a = some t) (k : kitB t T = some b) : fIsi T a G = .ok (.bl b) G := by
  simp only [fIsi, h, k]
theorem kit_ll : kitB "list" "list" = some true := by decide +kernel
theorem kit_lt : kitB "list" "tuple" = some false := by decide +kernel
theorem kit_tl : kitB "tuple" "list" = some false := by decide +kernel
theorem kit_tt : kitB "tuple" "tuple" = some true := by decide +kernel
theorem kit_nl : kitB "NoneType" "list" = some false := by decide +kernel
theorem kit_nt : kitB "NoneType" "tuple" = some false := by decide +kernel
theorem kit_bl : kitB "bool" "list" = some false := by decide +kernel
theorem kit_bt : kitB "bool" "tuple" = some false := by decide +kernel
theorem kit_bb : kitB "bool" "bool" = some true := by decide +kernel
theorem kit_bi : kitB "bool" "int" = some true := by decide +kernel
theorem kit_il : kitB "int" "list" = some false := by decide +kernel
theorem kit_it : kitB "int" "tuple" = some false := by decide +kernel
theorem kit_ib : kitB "int" "bool" = some false := by decide +kernel
theorem kit_is : kitB "int" "str" = some false := by decide +kernel
theorem kit_ii : kitB "int" "int" = some true := by decide +kernel
theorem kit_sl : kitB "str" "list" = some false := by decide +kernel
theorem kit_st : kitB "str" "tuple" = some false := by decide +kernel
theorem kit_sb : kitB "str" "bool" = some false := by decide +kernel
theorem kit_ss : kitB "str" "str" = some true := by decide +kernel
theorem kit_si : kitB "str" "int" = some false := by decide +kernel
theorem kit_bs : kitB "bool" "str" = some false := by decide +kernel
/-- over a list from its beginning -/
theorem for_all {g : DG} {body : DS} (Inv : Nat → PEnv → GS → Prop) {ds : List D} {σ : PEnv} {G : GS} (h0 : Inv 0 σ G)
    (st : ∀ (j : Nat) (d : D) (σ : PEnv) (G : GS), ds[j]? = some d → Inv j σ G → ∃ σ1 σ' G', g d σ = some σ1 ∧ (body σ1 G = .nx σ' G' ∨ body σ1 G = .cont σ' G') ∧ Inv (j + 1) σ' G') :
    ∃ σ' G', forL g body ds σ G = .nx σ' G' ∧ Inv ds.length σ' G' := by
  have := for_inv (g := g) (body := body) Inv ds 0 σ G h0 fun j d σ G hd hi => by
    rw [Nat.zero_add] at hi ⊢
    exact st j d σ G hd hi
  rwa [Nat.zero_add] at this
/-- over range(n) -/
theorem for_rng {g : DG} {body : DS} (Inv : Nat → PEnv → GS → Prop) {n : Nat} {σ : PEnv} {G : GS} (h0 : Inv 0 σ G)
    (st : ∀ (j : Nat) (σ : PEnv) (G : GS), j < n → Inv j σ G → ∃ σ1 σ' G', g (.int (j : Int)) σ = some σ1 ∧ (body σ1 G = .nx σ' G' ∨ body σ1 G = .cont σ' G') ∧ Inv (j + 1) σ' G') :
    ∃ σ' G', forL g body (rngD 0 n) σ G = .nx σ' G' ∧ Inv n σ' G' := by
  have := for_all (g := g) (body := body) Inv (ds := rngD 0 n) h0 fun j d σ G hd hi => by
    obtain ⟨hj, e⟩ := rngD_get hd
    rw [Int.zero_add] at e
    subst e
    exact st j σ G hj hi
  rwa [rngD_len] at this
theorem rng1_nat {n : Nat} {G : GS} (h : n < 2 ^ 62) : rng1 [.int (n : Int)] G = .ok (rngD 0 n) G := by
  have := rng1_ok (n := (n : Int)) (G := G) (by omega) (by omega)
  simpa using this
theorem repOk_ok {n : Int} {l : Nat} (h1 : 0 ≤ n) (h2 : n ≤ 1000) (h3 : l ≤ 10000) : repOk n l = true := by
  rw [repOk_eq, decide_eq_true (by omega), decide_eq_true (by omega), decide_eq_true]
  · rfl
  · have : l * n.toNat ≤ 10000 * 1000 := Nat.mul_le_mul h3 (by omega)
    unfold maxLine; omega
theorem mulStr {a : List Nat} {n : Int} {G : GS} (h1 : 0 ≤ n) (h2 : n ≤ 1000) (h3 : a.length ≤ 10000) : bMul (.str a) (.int n) G = .ok (.str (repL a n.toNat)) G := by
  simp only [bMul]
  rw [if_pos (repOk_ok h1 h2 h3)]
theorem mulLst {a : List D} {n : Int} {G : GS} (h1 : 0 ≤ n) (h2 : n ≤ 1000) (h3 : a.length ≤ 10000) : bMul (.lst a) (.int n) G = .ok (.lst (repL a n.toNat)) G := by
  simp only [bMul, lstOf]
  rw [if_pos (repOk_ok h1 h2 h3)]
theorem finish_top {β : Type} {G' : GS} {d : D} {k : D → GS → RE β} (h : nrD d = true) : finish subD [] d G' k = k d [] := by
  have := finish_nr (G := []) (t := G') (k := k) h
  simpa using this
theorem subS_iff (a b : List Nat) : subS a b = true ↔ ∃ i, i + a.length ≤ b.length ∧ (b.drop i).take a.length = a := by
  unfold subS
  rw [PySem.StrLaws.found_iff]
  constructor
  · rintro ⟨i, h1, h2⟩
    rw [PySem.StrLaws.subAt_eq, beq_iff_eq, S_cps, S_cps, S_len] at h2
    rw [S_len, S_len] at h1
    exact ⟨i, h1, h2⟩
  · rintro ⟨i, h1, h2⟩
    refine ⟨i, by rw [S_len, S_len]; exact h1, ?_⟩
    rw [PySem.StrLaws.subAt_eq, beq_iff_eq, S_cps, S_cps, S_len]
    exact h2
theorem subS_false {c : Nat} {r b : List Nat} (h : ¬ c ∈ b) : subS (c :: r) b = false := by
  cases q : subS (c :: r) b with
  | false => rfl
  | true =>
    obtain ⟨i, _, e⟩ := (subS_iff _ _).mp q
    have : c ∈ (b.drop i).take (c :: r).length := by rw [e]; exact List.mem_cons_self
    exact absurd (List.mem_of_mem_drop (List.mem_of_mem_take this)) h
theorem repL_rep (c : Nat) : ∀ n, repL [c] n = List.replicate n c
  | 0 => rfl
  | n + 1 => by rw [repL, repL_rep c n]; rfl
theorem fuel_gt {n : Nat} (h : n < 1000000) : n < fuel := h
end Dl
namespace K01
open PySem L2 Dl
/-! the text -/
def top (i : Nat) : Stmt := PySem.Challenge.pw_latestart_k01_tokens_of_lines.main.body.getD i (.Pass ⟨0, 0, 0, 0⟩)
def d_end_of_run : He.DefD := ⟨("end_of_run", none), "end_of_run", "end_of_run", defArgs (top 8), defBody (top 8), defScope (top 8), [], []⟩
def d_string_at : He.DefD := ⟨("string_at", none), "string_at", "string_at", defArgs (top 7), defBody (top 7), defScope (top 7), [], []⟩
def d_is_number : He.DefD := ⟨("is_number", none), "is_number", "is_number", defArgs (top 10), defBody (top 10), defScope (top 10), [], []⟩
def d_kind_of : He.DefD := ⟨("kind_of", none), "kind_of", "kind_of", defArgs (top 9), defBody (top 9), defScope (top 9), [], []⟩
def d_tokens : He.DefD := ⟨("tokens", none), "tokens", "tokens", defArgs (top 6), defBody (top 6), defScope (top 6), [], []⟩
def d__law_cell : He.DefD := ⟨("_law_cell", none), "_law_cell", "_law_cell", defArgs (top 12), defBody (top 12), defScope (top 12), [], []⟩
def d__law_digits : He.DefD := ⟨("_law_digits", none), "_law_digits", "_law_digits", defArgs (top 13), defBody (top 13), defScope (top 13), [], []⟩
def d__law_draw : He.DefD := ⟨("_law_draw", none), "_law_draw", "_law_draw", defArgs (top 14), defBody (top 14), defScope (top 14), [], []⟩
def d__law_same : He.DefD := ⟨("_law_same", none), "_law_same", "_law_same", defArgs (top 15), defBody (top 15), defScope (top 15), [], []⟩
def d__law_run : He.DefD := ⟨("_law_run", none), "_law_run", "_law_run", defArgs (top 16), defBody (top 16), defScope (top 16), [], []⟩
def d__law_token : He.DefD := ⟨("_law_token", none), "_law_token", "_law_token", defArgs (top 17), defBody (top 17), defScope (top 17), [], []⟩
def d__law_sort : He.DefD := ⟨("_law_sort", none), "_law_sort", "_law_sort", defArgs (top 18), defBody (top 18), defScope (top 18), [], []⟩
def d_law : He.DefD := ⟨("law", none), "law", "law", defArgs (top 19), defBody (top 19), defScope (top 19), [], []⟩
def fn : List He.DefD := [d_end_of_run, d_string_at, d_is_number, d_kind_of, d_tokens, d__law_cell, d__law_digits, d__law_draw, d__law_same, d__law_run, d__law_token, d__law_sort, d_law]
def fa : List He.Fa := [.free "len", .free "range", .free "int", .free "isinstance", .free "list", .free "tuple", .free "bool", .free "str", .free "max", .str "LETTERS" "abcdefghijklmnopqrstuvwxyz", .str "DIGITS" "0123456789", .int "MOST_DIGITS" 4, .int "MOST_LETTERS" 12, .str "SIGNS" ":,;", .glo "end_of_run", .glo "string_at", .glo "is_number", .glo "kind_of", .glo "tokens", .glo "_law_cell", .glo "_law_digits", .glo "_law_draw", .glo "_law_same", .glo "_law_run", .glo "_law_token", .glo "_law_sort", .glo "law"]
def Tx (K : PySem.W.Frag) (mg : MG) : Prop := ∃ h : Heap, K.In h ∧ h.Ns mainGlobals mg ∧ He.SaysD fa fn K
section
variable {K : PySem.W.Frag} {mg : MG}
theorem Tx.free_len (T : Tx K mg) : mg "len" = none := by
  obtain ⟨h, X, G, c⟩ := T
  exact He.free_ok X G (c.fact 0)
theorem Tx.free_range (T : Tx K mg) : mg "range" = none := by
  obtain ⟨h, X, G, c⟩ := T
  exact He.free_ok X G (c.fact 1)
theorem Tx.free_int (T : Tx K mg) : mg "int" = none := by
  obtain ⟨h, X, G, c⟩ := T
  exact He.free_ok X G (c.fact 2)
theorem Tx.free_isinstance (T : Tx K mg) : mg "isinstance" = none := by
  obtain ⟨h, X, G, c⟩ := T
  exact He.free_ok X G (c.fact 3)
theorem Tx.free_list (T : Tx K mg) : mg "list" = none := by
  obtain ⟨h, X, G, c⟩ := T
  exact He.free_ok X G (c.fact 4)
theorem Tx.free_tuple (T : Tx K mg) : mg "tuple" = none := by
  obtain ⟨h, X, G, c⟩ := T
  exact He.free_ok X G (c.fact 5)
theorem Tx.free_bool (T : Tx K mg) : mg "bool" = none := by
  obtain ⟨h, X, G, c⟩ := T
  exact He.free_ok X G (c.fact 6)
theorem Tx.free_str (T : Tx K mg) : mg "str" = none := by
  obtain ⟨h, X, G, c⟩ := T
  exact He.free_ok X G (c.fact 7)
theorem Tx.free_max (T : Tx K mg) : mg "max" = none := by
  obtain ⟨h, X, G, c⟩ := T
  exact He.free_ok X G (c.fact 8)
theorem Tx.con_LETTERS (T : Tx K mg) : ∃ t, mg "LETTERS" = some (.str "abcdefghijklmnopqrstuvwxyz" t) := by
  obtain ⟨h, X, G, c⟩ := T
  exact He.str_ok X G (c.fact 9)
theorem Tx.con_DIGITS (T : Tx K mg) : ∃ t, mg "DIGITS" = some (.str "0123456789" t) := by
  obtain ⟨h, X, G, c⟩ := T
  exact He.str_ok X G (c.fact 10)
theorem Tx.con_MOST_DIGITS (T : Tx K mg) : ∃ t, mg "MOST_DIGITS" = some (.int 4 t) := by
  obtain ⟨h, X, G, c⟩ := T
  exact He.int_ok X G (c.fact 11)
theorem Tx.con_MOST_LETTERS (T : Tx K mg) : ∃ t, mg "MOST_LETTERS" = some (.int 12 t) := by
  obtain ⟨h, X, G, c⟩ := T
  exact He.int_ok X G (c.fact 12)
theorem Tx.con_SIGNS (T : Tx K mg) : ∃ t, mg "SIGNS" = some (.str ":,;" t) := by
  obtain ⟨h, X, G, c⟩ := T
  exact He.str_ok X G (c.fact 13)
theorem Tx.glo_end_of_run (T : Tx K mg) : mg "end_of_run" = some (.ref (He.ga K "end_of_run")) := by
  obtain ⟨h, X, G, c⟩ := T
  exact He.glo_ok X G (c.fact 14)
theorem Tx.glo_string_at (T : Tx K mg) : mg "string_at" = some (.ref (He.ga K "string_at")) := by
  obtain ⟨h, X, G, c⟩ := T
  exact He.glo_ok X G (c.fact 15)
theorem Tx.glo_is_number (T : Tx K mg) : mg "is_number" = some (.ref (He.ga K "is_number")) := by
  obtain ⟨h, X, G, c⟩ := T
  exact He.glo_ok X G (c.fact 16)
theorem Tx.glo_kind_of (T : Tx K mg) : mg "kind_of" = some (.ref (He.ga K "kind_of")) := by
  obtain ⟨h, X, G, c⟩ := T
  exact He.glo_ok X G (c.fact 17)
theorem Tx.glo_tokens (T : Tx K mg) : mg "tokens" = some (.ref (He.ga K "tokens")) := by
  obtain ⟨h, X, G, c⟩ := T
  exact He.glo_ok X G (c.fact 18)
theorem Tx.glo__law_cell (T : Tx K mg) : mg "_law_cell" = some (.ref (He.ga K "_law_cell")) := by
  obtain ⟨h, X, G, c⟩ := T
  exact He.glo_ok X G (c.fact 19)
theorem Tx.glo__law_digits (T : Tx K mg) : mg "_law_digits" = some (.ref (He.ga K "_law_digits")) := by
  obtain ⟨h, X, G, c⟩ := T
  exact He.glo_ok X G (c.fact 20)
theorem Tx.glo__law_draw (T : Tx K mg) : mg "_law_draw" = some (.ref (He.ga K "_law_draw")) := by
  obtain ⟨h, X, G, c⟩ := T
  exact He.glo_ok X G (c.fact 21)
theorem Tx.glo__law_same (T : Tx K mg) : mg "_law_same" = some (.ref (He.ga K "_law_same")) := by
  obtain ⟨h, X, G, c⟩ := T
  exact He.glo_ok X G (c.fact 22)
theorem Tx.glo__law_run (T : Tx K mg) : mg "_law_run" = some (.ref (He.ga K "_law_run")) := by
  obtain ⟨h, X, G, c⟩ := T
  exact He.glo_ok X G (c.fact 23)
theorem Tx.glo__law_token (T : Tx K mg) : mg "_law_token" = some (.ref (He.ga K "_law_token")) := by
  obtain ⟨h, X, G, c⟩ := T
  exact He.glo_ok X G (c.fact 24)
theorem Tx.glo__law_sort (T : Tx K mg) : mg "_law_sort" = some (.ref (He.ga K "_law_sort")) := by
  obtain ⟨h, X, G, c⟩ := T
  exact He.glo_ok X G (c.fact 25)
theorem Tx.glo_law (T : Tx K mg) : mg "law" = some (.ref (He.ga K "law")) := by
  obtain ⟨h, X, G, c⟩ := T
  exact He.glo_ok X G (c.fact 26)
theorem Tx.def_end_of_run (T : Tx K mg) : ∃ fd, FunD K "end_of_run" "end_of_run" (defArgs (top 8)) (defBody (top 8)) (defScope (top 8)) [] [] (He.ga K "end_of_run") fd := by
  obtain ⟨h, X, G, c⟩ := T
  exact c.def_ 0 (d := d_end_of_run) rfl
theorem Tx.def_string_at (T : Tx K mg) : ∃ fd, FunD K "string_at" "string_at" (defArgs (top 7)) (defBody (top 7)) (defScope (top 7)) [] [] (He.ga K "string_at") fd := by
  obtain ⟨h, X, G, c⟩ := T
  exact c.def_ 1 (d := d_string_at) rfl
theorem Tx.def_is_number (T : Tx K mg) : ∃ fd, FunD K "is_number" "is_number" (defArgs (top 10)) (defBody (top 10)) (defScope (top 10)) [] [] (He.ga K "is_number") fd := by
  obtain ⟨h, X, G, c⟩ := T
  exact c.def_ 2 (d := d_is_number) rfl
theorem Tx.def_kind_of (T : Tx K mg) : ∃ fd, FunD K "kind_of" "kind_of" (defArgs (top 9)) (defBody (top 9)) (defScope (top 9)) [] [] (He.ga K "kind_of") fd := by
  obtain ⟨h, X, G, c⟩ := T
  exact c.def_ 3 (d := d_kind_of) rfl
theorem Tx.def_tokens (T : Tx K mg) : ∃ fd, FunD K "tokens" "tokens" (defArgs (top 6)) (defBody (top 6)) (defScope (top 6)) [] [] (He.ga K "tokens") fd := by
  obtain ⟨h, X, G, c⟩ := T
  exact c.def_ 4 (d := d_tokens) rfl
theorem Tx.def__law_cell (T : Tx K mg) : ∃ fd, FunD K "_law_cell" "_law_cell" (defArgs (top 12)) (defBody (top 12)) (defScope (top 12)) [] [] (He.ga K "_law_cell") fd := by
  obtain ⟨h, X, G, c⟩ := T
  exact c.def_ 5 (d := d__law_cell) rfl
theorem Tx.def__law_digits (T : Tx K mg) : ∃ fd, FunD K "_law_digits" "_law_digits" (defArgs (top 13)) (defBody (top 13)) (defScope (top 13)) [] [] (He.ga K "_law_digits") fd := by
  obtain ⟨h, X, G, c⟩ := T
  exact c.def_ 6 (d := d__law_digits) rfl
theorem Tx.def__law_draw (T : Tx K mg) : ∃ fd, FunD K "_law_draw" "_law_draw" (defArgs (top 14)) (defBody (top 14)) (defScope (top 14)) [] [] (He.ga K "_law_draw") fd := by
  obtain ⟨h, X, G, c⟩ := T
  exact c.def_ 7 (d := d__law_draw) rfl
theorem Tx.def__law_same (T : Tx K mg) : ∃ fd, FunD K "_law_same" "_law_same" (defArgs (top 15)) (defBody (top 15)) (defScope (top 15)) [] [] (He.ga K "_law_same") fd := by
  obtain ⟨h, X, G, c⟩ := T
  exact c.def_ 8 (d := d__law_same) rfl
theorem Tx.def__law_run (T : Tx K mg) : ∃ fd, FunD K "_law_run" "_law_run" (defArgs (top 16)) (defBody (top 16)) (defScope (top 16)) [] [] (He.ga K "_law_run") fd := by
  obtain ⟨h, X, G, c⟩ := T
  exact c.def_ 9 (d := d__law_run) rfl
theorem Tx.def__law_token (T : Tx K mg) : ∃ fd, FunD K "_law_token" "_law_token" (defArgs (top 17)) (defBody (top 17)) (defScope (top 17)) [] [] (He.ga K "_law_token") fd := by
  obtain ⟨h, X, G, c⟩ := T
  exact c.def_ 10 (d := d__law_token) rfl
theorem Tx.def__law_sort (T : Tx K mg) : ∃ fd, FunD K "_law_sort" "_law_sort" (defArgs (top 18)) (defBody (top 18)) (defScope (top 18)) [] [] (He.ga K "_law_sort") fd := by
  obtain ⟨h, X, G, c⟩ := T
  exact c.def_ 11 (d := d__law_sort) rfl
theorem Tx.def_law (T : Tx K mg) : ∃ fd, FunD K "law" "law" (defArgs (top 19)) (defBody (top 19)) (defScope (top 19)) [] [] (He.ga K "law") fd := by
  obtain ⟨h, X, G, c⟩ := T
  exact c.def_ 12 (d := d_law) rfl
end
section
variable {P : Program} {w : World} {K : PySem.W.Frag} {mg : MG} {base : Heap}
/-! end_of_run -/
abbrev s_end_of_run : Stmt := top 8
theorem sc_end_of_run : FnScope ["line", "at", "characters", "end"] ["line", "at", "characters"] (defScope s_end_of_run) := ⟨rfl, rfl, rfl, by decide +kernel, rfl, by decide +kernel, by decide +kernel⟩
noncomputable def S_end_of_run_1 : DS :=
 (sAsg 3 (eVar 1))
noncomputable def S_end_of_run_3 : DS :=
 (sAug 3 bIadd (eCst (.int 1)))
noncomputable def W_end_of_run_2 : DT :=
 (dAnd (dT (eBin cLt (eVar 3) (eApp fLen (aCons (eVar 0) aNil)))) (dT (eBin (cIn false) (eBin bIx (eVar 0) (eVar 3)) (eVar 2))))
noncomputable def L_end_of_run_2 : DS :=
 S_end_of_run_3
noncomputable def S_end_of_run_2 : DS :=
 (sWhile fuel W_end_of_run_2 L_end_of_run_2)
noncomputable def S_end_of_run_4 : DS :=
 (sRet (eVar 3))
noncomputable def B_end_of_run : DS :=
 (sSeq S_end_of_run_1
 (sSeq S_end_of_run_2
 S_end_of_run_4))
noncomputable def F_end_of_run : DF := runF 4 B_end_of_run
theorem ok_end_of_run (T : Tx K mg) : FnX P w K mg base "end_of_run" 1 ["line", "at", "characters"] F_end_of_run :=
  fnX T.def_end_of_run T.glo_end_of_run sc_end_of_run rfl (fun _ _ _ _ _ _ us hl => match us, hl with | [_, _, _], _ => rfl) fun f cdv A outer s H E hr =>
 (le_seq (le_set (i := 3) sc_end_of_run.nd (le_var 1))
 (le_seq (le_while fuel (passes_of rfl) (L2.PW.pt (le_and (le_tcmp op_lt sv_lt (le_var 3) (le_callB call_len sv_len (by rfl) (T.free_len) (by decide +kernel) (le_acons (le_var 0) le_anil)) (nomark _)) (le_and1 (le_tcmp op_inA (sv_in false) (le_ix ix_seq sv_ix (le_var 0) (le_var 3) (fun _ _ => rfl)) (le_var 2) (by rfl)))))
 (le_one (le_aug (i := 3) sc_end_of_run.nd iop_addA sv_iadd le_int)))
 (le_one (le_ret (le_var 3)))))
/-! string_at -/
abbrev s_string_at : Stmt := top 7
theorem sc_string_at : FnScope ["line", "at"] ["line", "at"] (defScope s_string_at) := ⟨rfl, rfl, rfl, by decide +kernel, rfl, by decide +kernel, by decide +kernel⟩
noncomputable def C_string_at_1 : DT :=
 (dT (eBin (cIn false) (eBin bIx (eVar 0) (eVar 1)) (eCst (.str (lit "abcdefghijklmnopqrstuvwxyz")))))
noncomputable def S_string_at_2 : DS :=
 (sRet (eSl (eVar 0) (oSome (eVar 1)) (oSome (eCall F_end_of_run (aCons (eVar 0) (aCons (eVar 1) (aCons (eCst (.str (lit "abcdefghijklmnopqrstuvwxyz"))) aNil)))))))
noncomputable def S_string_at_1 : DS :=
 (sIf C_string_at_1
 S_string_at_2
 sNil)
noncomputable def C_string_at_3 : DT :=
 (dT (eBin (cIn false) (eBin bIx (eVar 0) (eVar 1)) (eCst (.str (lit "0123456789")))))
noncomputable def S_string_at_4 : DS :=
 (sRet (eSl (eVar 0) (oSome (eVar 1)) (oSome (eCall F_end_of_run (aCons (eVar 0) (aCons (eVar 1) (aCons (eCst (.str (lit "0123456789"))) aNil)))))))
noncomputable def S_string_at_3 : DS :=
 (sIf C_string_at_3
 S_string_at_4
 sNil)
noncomputable def S_string_at_5 : DS :=
 (sRet (eBin bIx (eVar 0) (eVar 1)))
noncomputable def B_string_at : DS :=
 (sSeq S_string_at_1
 (sSeq S_string_at_3
 S_string_at_5))
noncomputable def F_string_at : DF := runF 2 B_string_at
theorem ok_string_at (T : Tx K mg) : FnX P w K mg base "string_at" 2 ["line", "at"] F_string_at :=
  fnX T.def_string_at T.glo_string_at sc_string_at rfl (fun _ _ _ _ _ _ us hl => match us, hl with | [_, _], _ => rfl) fun f cdv A outer s H E hr =>
 (le_seq (le_if (le_tcmp op_inA (sv_in false) (le_ix ix_seq sv_ix (le_var 0) (le_var 1) (fun _ _ => rfl)) (le_gstr1 (by rfl) (T.con_LETTERS)) (by rfl))
 (le_one (le_ret (le_sl (le_var 0) (le_osome (le_var 1)) (le_osome (le_callX (ok_end_of_run T) (takes_of rfl rfl rfl rfl) (hr.mono (by decide)) (by rfl) (le_acons (le_var 0) (le_acons (le_var 1) (le_acons (le_gstr1 (by rfl) (T.con_LETTERS)) le_anil))) (fun _ _ _ _ h => len_cons (fun _ _ _ _ h => len_cons (fun _ _ _ _ h => len_cons (fun _ _ _ _ h => len_nil h) h) h) h))))))
 le_nil)
 (le_seq (le_if (le_tcmp op_inA (sv_in false) (le_ix ix_seq sv_ix (le_var 0) (le_var 1) (fun _ _ => rfl)) (le_gstr1 (by rfl) (T.con_DIGITS)) (by rfl))
 (le_one (le_ret (le_sl (le_var 0) (le_osome (le_var 1)) (le_osome (le_callX (ok_end_of_run T) (takes_of rfl rfl rfl rfl) (hr.mono (by decide)) (by rfl) (le_acons (le_var 0) (le_acons (le_var 1) (le_acons (le_gstr1 (by rfl) (T.con_DIGITS)) le_anil))) (fun _ _ _ _ h => len_cons (fun _ _ _ _ h => len_cons (fun _ _ _ _ h => len_cons (fun _ _ _ _ h => len_nil h) h) h) h))))))
 le_nil)
 (le_one (le_ret (le_ix ix_seq sv_ix (le_var 0) (le_var 1) (fun _ _ => rfl))))))
/-! is_number -/
abbrev s_is_number : Stmt := top 10
theorem sc_is_number : FnScope ["digits"] ["digits"] (defScope s_is_number) := ⟨rfl, rfl, rfl, by decide +kernel, rfl, by decide +kernel, by decide +kernel⟩
noncomputable def S_is_number_1 : DS :=
 (sRet (eAnd (eBin cLe (eApp fLen (aCons (eVar 0) aNil)) (eCst (.int 4))) (eOr (eBin (cEqB false) (eVar 0) (eCst (.str (lit "0")))) (eBin (cEqB true) (eBin bIx (eVar 0) (eCst (.int 0))) (eCst (.str (lit "0")))))))
noncomputable def B_is_number : DS :=
 S_is_number_1
noncomputable def F_is_number : DF := runF 1 B_is_number
theorem ok_is_number (T : Tx K mg) : FnX P w K mg base "is_number" 1 ["digits"] F_is_number :=
  fnX T.def_is_number T.glo_is_number sc_is_number rfl (fun _ _ _ _ _ _ us hl => match us, hl with | [_], _ => rfl) fun f cdv A outer s H E hr =>
 (le_one (le_ret (le_andV (le_cmp op_le sv_le (le_callB call_len sv_len (by rfl) (T.free_len) (by decide +kernel) (le_acons (le_var 0) le_anil)) (le_gint1 (by rfl) (T.con_MOST_DIGITS)) (nomark _)) (le_oneV (le_orV (le_cmp (op_eqA hr.units) sv_eq (le_var 0) le_lit (nomark _)) (le_oneV (le_cmp (op_neA hr.units) sv_ne (le_ix ix_seq sv_ix (le_var 0) le_int (fun _ _ => rfl)) le_lit (nomark _))))))))
/-! kind_of -/
abbrev s_kind_of : Stmt := top 9
theorem sc_kind_of : FnScope ["string"] ["string"] (defScope s_kind_of) := ⟨rfl, rfl, rfl, by decide +kernel, rfl, by decide +kernel, by decide +kernel⟩
noncomputable def C_kind_of_1 : DT :=
 (dAnd (dT (eBin (cIn false) (eBin bIx (eVar 0) (eCst (.int 0))) (eCst (.str (lit "abcdefghijklmnopqrstuvwxyz"))))) (dT (eBin cLe (eApp fLen (aCons (eVar 0) aNil)) (eCst (.int 12)))))
noncomputable def S_kind_of_2 : DS :=
 (sRet (eCst (.str (lit "name"))))
noncomputable def S_kind_of_1 : DS :=
 (sIf C_kind_of_1
 S_kind_of_2
 sNil)
noncomputable def C_kind_of_3 : DT :=
 (dAnd (dT (eBin (cIn false) (eBin bIx (eVar 0) (eCst (.int 0))) (eCst (.str (lit "0123456789"))))) (dT (eCall F_is_number (aCons (eVar 0) aNil))))
noncomputable def S_kind_of_4 : DS :=
 (sRet (eCst (.str (lit "number"))))
noncomputable def S_kind_of_3 : DS :=
 (sIf C_kind_of_3
 S_kind_of_4
 sNil)
noncomputable def C_kind_of_5 : DT :=
 (dT (eBin (cIn false) (eVar 0) (eCst (.str (lit ":,;")))))
noncomputable def S_kind_of_6 : DS :=
 (sRet (eCst (.str (lit "sign"))))
noncomputable def S_kind_of_5 : DS :=
 (sIf C_kind_of_5
 S_kind_of_6
 sNil)
noncomputable def S_kind_of_7 : DS :=
 (sRet (eCst (.str (lit "bad"))))
noncomputable def B_kind_of : DS :=
 (sSeq S_kind_of_1
 (sSeq S_kind_of_3
 (sSeq S_kind_of_5
 S_kind_of_7)))
noncomputable def F_kind_of : DF := runF 1 B_kind_of
theorem ok_kind_of (T : Tx K mg) : FnX P w K mg base "kind_of" 2 ["string"] F_kind_of :=
  fnX T.def_kind_of T.glo_kind_of sc_kind_of rfl (fun _ _ _ _ _ _ us hl => match us, hl with | [_], _ => rfl) fun f cdv A outer s H E hr =>
 (le_seq (le_if (L2.PW.pt (le_and (le_tcmp op_inA (sv_in false) (le_ix ix_seq sv_ix (le_var 0) le_int (fun _ _ => rfl)) (le_gstr1 (by rfl) (T.con_LETTERS)) (by rfl)) (le_and1 (le_tcmp op_le sv_le (le_callB call_len sv_len (by rfl) (T.free_len) (by decide +kernel) (le_acons (le_var 0) le_anil)) (le_gint1 (by rfl) (T.con_MOST_LETTERS)) (nomark _)))))
 (le_one (le_ret le_lit))
 le_nil)
 (le_seq (le_if (L2.PW.pt (le_and (le_tcmp op_inA (sv_in false) (le_ix ix_seq sv_ix (le_var 0) le_int (fun _ _ => rfl)) (le_gstr1 (by rfl) (T.con_DIGITS)) (by rfl)) (le_and1 (le_test (le_callX (ok_is_number T) (takes_of rfl rfl rfl rfl) (hr.mono (by decide)) (by rfl) (le_acons (le_var 0) le_anil) (fun _ _ _ _ h => len_cons (fun _ _ _ _ h => len_nil h) h))))))
 (le_one (le_ret le_lit))
 le_nil)
 (le_seq (le_if (le_tcmp op_inA (sv_in false) (le_var 0) (le_gstr1 (by rfl) (T.con_SIGNS)) (by rfl))
 (le_one (le_ret le_lit))
 le_nil)
 (le_one (le_ret le_lit)))))
/-! tokens -/
abbrev s_tokens : Stmt := top 6
theorem sc_tokens : FnScope ["line", "found", "at", "string"] ["line"] (defScope s_tokens) := ⟨rfl, rfl, rfl, by decide +kernel, rfl, by decide +kernel, by decide +kernel⟩
noncomputable def S_tokens_1 : DS :=
 (sAsg 1 (eNew aNil))
noncomputable def S_tokens_2 : DS :=
 (sAsg 2 (eCst (.int 0)))
noncomputable def C_tokens_4 : DT :=
 (dT (eBin (cEqB false) (eBin bIx (eVar 0) (eVar 2)) (eCst (.str (lit " ")))))
noncomputable def S_tokens_5 : DS :=
 (sAug 2 bIadd (eCst (.int 1)))
noncomputable def S_tokens_7 : DS :=
 (sAsg 3 (eCall F_string_at (aCons (eVar 0) (aCons (eVar 2) aNil))))
noncomputable def S_tokens_8 : DS :=
 (sExp (eMt isLst mAppend (eVar 1) (aCons (eTup (aCons (eCall F_kind_of (aCons (eVar 3) aNil)) (aCons (eVar 3) aNil))) aNil)))
noncomputable def S_tokens_9 : DS :=
 (sAug 2 bIadd (eApp fLen (aCons (eVar 3) aNil)))
noncomputable def S_tokens_4 : DS :=
 (sIf C_tokens_4
 S_tokens_5
 (sSeq S_tokens_7
 (sSeq S_tokens_8
 S_tokens_9)))
noncomputable def W_tokens_3 : DT :=
 (dT (eBin cLt (eVar 2) (eApp fLen (aCons (eVar 0) aNil))))
noncomputable def L_tokens_3 : DS :=
 S_tokens_4
noncomputable def S_tokens_3 : DS :=
 (sWhile fuel W_tokens_3 L_tokens_3)
noncomputable def S_tokens_10 : DS :=
 (sRet (eVar 1))
noncomputable def B_tokens : DS :=
 (sSeq S_tokens_1
 (sSeq S_tokens_2
 (sSeq S_tokens_3
 S_tokens_10)))
noncomputable def F_tokens : DF := runF 4 B_tokens
theorem ok_tokens (T : Tx K mg) : FnX P w K mg base "tokens" 3 ["line"] F_tokens :=
  fnX T.def_tokens T.glo_tokens sc_tokens rfl (fun _ _ _ _ _ _ us hl => match us, hl with | [_], _ => rfl) fun f cdv A outer s H E hr =>
 (le_seq (le_set (i := 1) sc_tokens.nd (le_new le_anil))
 (le_seq (le_set (i := 2) sc_tokens.nd le_int)
 (le_seq (le_while fuel (passes_of rfl) (le_tcmp op_lt sv_lt (le_var 2) (le_callB call_len sv_len (by rfl) (T.free_len) (by decide +kernel) (le_acons (le_var 0) le_anil)) (nomark _))
 (le_one (le_if (le_tcmp (op_eqA hr.units) sv_eq (le_ix ix_seq sv_ix (le_var 0) (le_var 2) (fun _ _ => rfl)) le_lit (nomark _))
 (le_one (le_aug (i := 2) sc_tokens.nd iop_addA sv_iadd le_int))
 (le_seq (le_set (i := 3) sc_tokens.nd (le_callX (ok_string_at T) (takes_of rfl rfl rfl rfl) (hr.mono (by decide)) (by rfl) (le_acons (le_var 0) (le_acons (le_var 2) le_anil)) (fun _ _ _ _ h => len_cons (fun _ _ _ _ h => len_cons (fun _ _ _ _ h => len_nil h) h) h)))
 (le_seq (le_exp (le_mt PySem.F.plainAttrs_list PySem.F.slot_list_append PySem.F.type_list_append mt_append knd_lst sm_append (le_var 1) (le_acons (le_tup (le_acons (le_callX (ok_kind_of T) (takes_of rfl rfl rfl rfl) (hr.mono (by decide)) (by rfl) (le_acons (le_var 3) le_anil) (fun _ _ _ _ h => len_cons (fun _ _ _ _ h => len_nil h) h)) (le_acons (le_var 3) le_anil))) le_anil)))
 (le_one (le_aug (i := 2) sc_tokens.nd iop_addA sv_iadd (le_callB call_len sv_len (by rfl) (T.free_len) (by decide +kernel) (le_acons (le_var 3) le_anil)))))))))
 (le_one (le_ret (le_var 1))))))
/-! _law_cell -/
abbrev s__law_cell : Stmt := top 12
theorem sc__law_cell : FnScope ["script", "k"] ["script", "k"] (defScope s__law_cell) := ⟨rfl, rfl, rfl, by decide +kernel, rfl, by decide +kernel, by decide +kernel⟩
noncomputable def C__law_cell_1 : DT :=
 (dT (eBin cLt (eVar 1) (eApp fLen (aCons (eVar 0) aNil))))
noncomputable def S__law_cell_2 : DS :=
 (sRet (eBin bIx (eVar 0) (eVar 1)))
noncomputable def S__law_cell_1 : DS :=
 (sIf C__law_cell_1
 S__law_cell_2
 sNil)
noncomputable def S__law_cell_3 : DS :=
 (sRet (eCst (.int 0)))
noncomputable def B__law_cell : DS :=
 (sSeq S__law_cell_1
 S__law_cell_3)
noncomputable def F__law_cell : DF := runF 2 B__law_cell
theorem ok__law_cell (T : Tx K mg) : FnX P w K mg base "_law_cell" 1 ["script", "k"] F__law_cell :=
  fnX T.def__law_cell T.glo__law_cell sc__law_cell rfl (fun _ _ _ _ _ _ us hl => match us, hl with | [_, _], _ => rfl) fun f cdv A outer s H E hr =>
 (le_seq (le_if (le_tcmp op_lt sv_lt (le_var 1) (le_callB call_len sv_len (by rfl) (T.free_len) (by decide +kernel) (le_acons (le_var 0) le_anil)) (nomark _))
 (le_one (le_ret (le_ix ix_seq sv_ix (le_var 0) (le_var 1) (fun _ _ => rfl))))
 le_nil)
 (le_one (le_ret le_int)))
/-! _law_digits -/
abbrev s__law_digits : Stmt := top 13
theorem sc__law_digits : FnScope ["script", "first", "last", "digits", "k", "cell", "turn", "seed"] ["script", "first", "last"] (defScope s__law_digits) := ⟨rfl, rfl, rfl, by decide +kernel, rfl, by decide +kernel, by decide +kernel⟩
noncomputable def S__law_digits_1 : DS :=
 (sAsg 3 (eNew aNil))
noncomputable def S__law_digits_3 : DS :=
 (sAsg 5 (eCall F__law_cell (aCons (eVar 0) (aCons (eVar 4) aNil))))
noncomputable def C__law_digits_4 : DT :=
 (dT (eBin cLt (eVar 5) (eCst (.int 0))))
noncomputable def S__law_digits_5 : DS :=
 (sAsg 5 (eBin bSub (eCst (.int 1)) (eBin bMul (eCst (.int 2)) (eVar 5))))
noncomputable def S__law_digits_4 : DS :=
 (sIf C__law_digits_4
 S__law_digits_5
 sNil)
noncomputable def C__law_digits_6 : DT :=
 (dT (eBin cGe (eVar 5) (eBin bPow (eCst (.int 10)) (eCst (.int 18)))))
noncomputable def C__law_digits_8 : DT :=
 (dT (eBin cGt (eVar 5) (eCst (.int 0))))
noncomputable def S__law_digits_9 : DS :=
 (sExp (eMt isLst mAppend (eVar 3) (aCons (eBin bMod (eApp fInt (aCons (eVar 5) aNil)) (eCst (.int 1000))) aNil)))
noncomputable def S__law_digits_10 : DS :=
 (sAsg 5 (eBin bFdiv (eVar 5) (eCst (.int 1000))))
noncomputable def S__law_digits_8 : DS :=
 (sIf C__law_digits_8
 (sSeq S__law_digits_9
 S__law_digits_10)
 sNil)
noncomputable def L__law_digits_7 : DS :=
 S__law_digits_8
noncomputable def S__law_digits_7 : DS :=
 (sFor (gN 6) (iRg1 (aCons (eCst (.int 60)) aNil)) L__law_digits_7)
noncomputable def S__law_digits_12 : DS :=
 (sAsg 7 (eBin bMod (eApp fInt (aCons (eBin bAdd (eBin bAdd (eBin bMul (eVar 5) (eCst (.int 48271))) (eBin bMul (eVar 4) (eCst (.int 69621)))) (eCst (.int 11))) aNil)) (eCst (.int 2147483647))))
noncomputable def S__law_digits_14 : DS :=
 (sAsg 7 (eBin bMod (eApp fInt (aCons (eBin bAdd (eBin bAdd (eBin bMul (eVar 7) (eCst (.int 16807))) (eBin bMul (eCst (.int 7)) (eVar 6))) (eCst (.int 1))) aNil)) (eCst (.int 2147483647))))
noncomputable def S__law_digits_15 : DS :=
 (sExp (eMt isLst mAppend (eVar 3) (aCons (eBin bMod (eApp fInt (aCons (eBin bFdiv (eVar 7) (eCst (.int 997))) aNil)) (eCst (.int 1000))) aNil)))
noncomputable def L__law_digits_13 : DS :=
 (sSeq S__law_digits_14
 S__law_digits_15)
noncomputable def S__law_digits_13 : DS :=
 (sFor (gN 6) (iRg1 (aCons (eCst (.int 12)) aNil)) L__law_digits_13)
noncomputable def S__law_digits_6 : DS :=
 (sIf C__law_digits_6
 S__law_digits_7
 (sSeq S__law_digits_12
 S__law_digits_13))
noncomputable def L__law_digits_2 : DS :=
 (sSeq S__law_digits_3
 (sSeq S__law_digits_4
 S__law_digits_6))
noncomputable def S__law_digits_2 : DS :=
 (sFor (gN 4) (iRg2 (aCons (eVar 1) (aCons (eVar 2) aNil))) L__law_digits_2)
noncomputable def S__law_digits_16 : DS :=
 (sRet (eVar 3))
noncomputable def B__law_digits : DS :=
 (sSeq S__law_digits_1
 (sSeq S__law_digits_2
 S__law_digits_16))
noncomputable def F__law_digits : DF := runF 8 B__law_digits
theorem ok__law_digits (T : Tx K mg) : FnX P w K mg base "_law_digits" 2 ["script", "first", "last"] F__law_digits :=
  fnX T.def__law_digits T.glo__law_digits sc__law_digits rfl (fun _ _ _ _ _ _ us hl => match us, hl with | [_, _, _], _ => rfl) fun f cdv A outer s H E hr =>
 (le_seq (le_set (i := 3) sc__law_digits.nd (le_new le_anil))
 (le_seq (le_for (passes_of rfl) rfl (le_rg2 (by rfl) (T.free_range) (le_acons (le_var 1) (le_acons (le_var 2) le_anil))) (le_gname (i := 4) sc__law_digits.nd)
 (le_seq (le_set (i := 5) sc__law_digits.nd (le_callX (ok__law_cell T) (takes_of rfl rfl rfl rfl) (hr.mono (by decide)) (by rfl) (le_acons (le_var 0) (le_acons (le_var 4) le_anil)) (fun _ _ _ _ h => len_cons (fun _ _ _ _ h => len_cons (fun _ _ _ _ h => len_nil h) h) h)))
 (le_seq (le_if (le_tcmp op_lt sv_lt (le_var 5) le_int (nomark _))
 (le_one (le_set (i := 5) sc__law_digits.nd (le_op op_sub sv_sub le_int (le_op op_mulA sv_mul le_int (le_var 5)))))
 le_nil)
 (le_one (le_if (le_tcmp op_ge sv_ge (le_var 5) (le_op op_pow sv_pow le_int le_int) (nomark _))
 (le_one (le_for (passes_of rfl) rfl (le_rg1 (by rfl) (T.free_range) (le_acons le_int le_anil)) (le_gname (i := 6) sc__law_digits.nd)
 (le_one (le_if (le_tcmp op_gt sv_gt (le_var 5) le_int (nomark _))
 (le_seq (le_exp (le_mt PySem.F.plainAttrs_list PySem.F.slot_list_append PySem.F.type_list_append mt_append knd_lst sm_append (le_var 3) (le_acons (le_op op_mod sv_mod (le_callTy call_intA sv_int (by rfl) (T.free_int) (by decide +kernel) (le_acons (le_var 5) le_anil)) le_int) le_anil)))
 (le_one (le_set (i := 5) sc__law_digits.nd (le_op op_fdiv sv_fdiv (le_var 5) le_int))))
 le_nil))))
 (le_seq (le_set (i := 7) sc__law_digits.nd (le_op op_mod sv_mod (le_callTy call_intA sv_int (by rfl) (T.free_int) (by decide +kernel) (le_acons (le_op op_addA sv_add (le_op op_addA sv_add (le_op op_mulA sv_mul (le_var 5) le_int) (le_op op_mulA sv_mul (le_var 4) le_int)) le_int) le_anil)) le_int))
 (le_one (le_for (passes_of rfl) rfl (le_rg1 (by rfl) (T.free_range) (le_acons le_int le_anil)) (le_gname (i := 6) sc__law_digits.nd)
 (le_seq (le_set (i := 7) sc__law_digits.nd (le_op op_mod sv_mod (le_callTy call_intA sv_int (by rfl) (T.free_int) (by decide +kernel) (le_acons (le_op op_addA sv_add (le_op op_addA sv_add (le_op op_mulA sv_mul (le_var 7) le_int) (le_op op_mulA sv_mul le_int (le_var 6))) le_int) le_anil)) le_int))
 (le_one (le_exp (le_mt PySem.F.plainAttrs_list PySem.F.slot_list_append PySem.F.type_list_append mt_append knd_lst sm_append (le_var 3) (le_acons (le_op op_mod sv_mod (le_callTy call_intA sv_int (by rfl) (T.free_int) (by decide +kernel) (le_acons (le_op op_fdiv sv_fdiv (le_var 7) le_int) le_anil)) le_int) le_anil)))))))))))))
 (le_one (le_ret (le_var 3)))))
/-! _law_draw -/
abbrev s__law_draw : Stmt := top 14
theorem sc__law_draw : FnScope ["box", "many", "at"] ["box", "many"] (defScope s__law_draw) := ⟨rfl, rfl, rfl, by decide +kernel, rfl, by decide +kernel, by decide +kernel⟩
noncomputable def S__law_draw_1 : DS :=
 (sAsg 2 (eBin bIx (eVar 0) (eCst (.int 1))))
noncomputable def S__law_draw_2 : DS :=
 (sSetI (eVar 0) (eCst (.int 1)) (eBin bAdd (eVar 2) (eCst (.int 1))))
noncomputable def C__law_draw_3 : DT :=
 (dT (eBin cLt (eVar 2) (eApp fLen (aCons (eBin bIx (eVar 0) (eCst (.int 0))) aNil))))
noncomputable def S__law_draw_4 : DS :=
 (sRet (eBin bMod (eApp fInt (aCons (eBin bIx (eBin bIx (eVar 0) (eCst (.int 0))) (eVar 2)) aNil)) (eVar 1)))
noncomputable def S__law_draw_3 : DS :=
 (sIf C__law_draw_3
 S__law_draw_4
 sNil)
noncomputable def S__law_draw_5 : DS :=
 (sRet (eCst (.int 0)))
noncomputable def B__law_draw : DS :=
 (sSeq S__law_draw_1
 (sSeq S__law_draw_2
 (sSeq S__law_draw_3
 S__law_draw_5)))
noncomputable def F__law_draw : DF := runF 3 B__law_draw
theorem ok__law_draw (T : Tx K mg) : FnX P w K mg base "_law_draw" 1 ["box", "many"] F__law_draw :=
  fnX T.def__law_draw T.glo__law_draw sc__law_draw rfl (fun _ _ _ _ _ _ us hl => match us, hl with | [_, _], _ => rfl) fun f cdv A outer s H E hr =>
 (le_seq (le_set (i := 2) sc__law_draw.nd (le_ix ix_seq sv_ix (le_var 0) le_int (fun _ _ => rfl)))
 (le_seq (le_setI (le_op op_addA sv_add (le_var 2) le_int) (le_var 0) le_int)
 (le_seq (le_if (le_tcmp op_lt sv_lt (le_var 2) (le_callB call_len sv_len (by rfl) (T.free_len) (by decide +kernel) (le_acons (le_ix ix_seq sv_ix (le_var 0) le_int (fun _ _ => rfl)) le_anil)) (nomark _))
 (le_one (le_ret (le_op op_mod sv_mod (le_callTy call_intA sv_int (by rfl) (T.free_int) (by decide +kernel) (le_acons (le_ix ix_seq sv_ix (le_ix ix_seq sv_ix (le_var 0) le_int (fun _ _ => rfl)) (le_var 2) (fun _ _ => rfl)) le_anil)) (le_var 1))))
 le_nil)
 (le_one (le_ret le_int)))))
/-! _law_same -/
abbrev s__law_same : Stmt := top 15
theorem sc__law_same : FnScope ["actual", "due", "k"] ["actual", "due"] (defScope s__law_same) := ⟨rfl, rfl, rfl, by decide +kernel, rfl, by decide +kernel, by decide +kernel⟩
noncomputable def C__law_same_1 (F : DF) : DT :=
 (dOr (dT (eUn (fIsi "list") (eVar 1))) (dT (eUn (fIsi "tuple") (eVar 1))))
noncomputable def C__law_same_2 (F : DF) : DT :=
 (dOr (dT (eBin (cEqB true) (eUn (fIsi "list") (eVar 1)) (eUn (fIsi "list") (eVar 0)))) (dT (eBin (cEqB true) (eUn (fIsi "tuple") (eVar 1)) (eUn (fIsi "tuple") (eVar 0)))))
noncomputable def S__law_same_3 (F : DF) : DS :=
 (sRet (eCst (.bl false)))
noncomputable def S__law_same_2 (F : DF) : DS :=
 (sIf (C__law_same_2 F)
 (S__law_same_3 F)
 sNil)
noncomputable def C__law_same_4 (F : DF) : DT :=
 (dT (eBin (cEqB true) (eApp fLen (aCons (eVar 0) aNil)) (eApp fLen (aCons (eVar 1) aNil))))
noncomputable def S__law_same_5 (F : DF) : DS :=
 (sRet (eCst (.bl false)))
noncomputable def S__law_same_4 (F : DF) : DS :=
 (sIf (C__law_same_4 F)
 (S__law_same_5 F)
 sNil)
noncomputable def C__law_same_7 (F : DF) : DT :=
 (dNot (dT (eCall F (aCons (eBin bIx (eVar 0) (eVar 2)) (aCons (eBin bIx (eVar 1) (eVar 2)) aNil)))))
noncomputable def S__law_same_8 (F : DF) : DS :=
 (sRet (eCst (.bl false)))
noncomputable def S__law_same_7 (F : DF) : DS :=
 (sIf (C__law_same_7 F)
 (S__law_same_8 F)
 sNil)
noncomputable def L__law_same_6 (F : DF) : DS :=
 (S__law_same_7 F)
noncomputable def S__law_same_6 (F : DF) : DS :=
 (sFor (gN 2) (iRg1 (aCons (eApp fLen (aCons (eVar 1) aNil)) aNil)) (L__law_same_6 F))
noncomputable def S__law_same_9 (F : DF) : DS :=
 (sRet (eCst (.bl true)))
noncomputable def S__law_same_1 (F : DF) : DS :=
 (sIf (C__law_same_1 F)
 (sSeq (S__law_same_2 F)
 (sSeq (S__law_same_4 F)
 (sSeq (S__law_same_6 F)
 (S__law_same_9 F))))
 sNil)
noncomputable def C__law_same_10 (F : DF) : DT :=
 (dT (eUn (cIsN false) (eVar 1)))
noncomputable def S__law_same_11 (F : DF) : DS :=
 (sRet (eUn (cIsN false) (eVar 0)))
noncomputable def S__law_same_10 (F : DF) : DS :=
 (sIf (C__law_same_10 F)
 (S__law_same_11 F)
 sNil)
noncomputable def C__law_same_12 (F : DF) : DT :=
 (dT (eUn (fIsi "bool") (eVar 1)))
noncomputable def S__law_same_13 (F : DF) : DS :=
 (sRet (eAnd (eUn (fIsi "bool") (eVar 0)) (eBin (cEqB false) (eVar 0) (eVar 1))))
noncomputable def S__law_same_12 (F : DF) : DS :=
 (sIf (C__law_same_12 F)
 (S__law_same_13 F)
 sNil)
noncomputable def C__law_same_14 (F : DF) : DT :=
 (dT (eUn (fIsi "str") (eVar 1)))
noncomputable def S__law_same_15 (F : DF) : DS :=
 (sRet (eAnd (eUn (fIsi "str") (eVar 0)) (eBin (cEqB false) (eVar 0) (eVar 1))))
noncomputable def S__law_same_14 (F : DF) : DS :=
 (sIf (C__law_same_14 F)
 (S__law_same_15 F)
 sNil)
noncomputable def S__law_same_16 (F : DF) : DS :=
 (sRet (eAnd (eUn (fIsi "int") (eVar 0)) (eAnd (eNot (eUn (fIsi "bool") (eVar 0))) (eBin (cEqB false) (eVar 0) (eVar 1)))))
noncomputable def B__law_same (F : DF) : DS :=
 (sSeq (S__law_same_1 F)
 (sSeq (S__law_same_10 F)
 (sSeq (S__law_same_12 F)
 (sSeq (S__law_same_14 F)
 (S__law_same_16 F)))))
noncomputable def F__law_same : Nat → DF
  | 0 => fun _ _ => .bad
  | n + 1 => runF 3 (B__law_same (F__law_same n))
theorem ok__law_same (T : Tx K mg) : ∀ n, FnX P w K mg base "_law_same" (n + 1) ["actual", "due"] (F__law_same n)
  | 0 => fnX_bad T.def__law_same T.glo__law_same (fun _ _ _ _ _ _ us hl => match us, hl with | [_, _], _ => rfl)
  | n + 1 => fnX T.def__law_same T.glo__law_same sc__law_same rfl (fun _ _ _ _ _ _ us hl => match us, hl with | [_, _], _ => rfl) fun f cdv A outer s H E hr =>
  have OK : FnX P w K mg base "_law_same" (n + 1) ["actual", "due"] (F__law_same n) := ok__law_same T n
 (le_seq (le_if (L2.PW.pt (le_or (le_test (le_isi (T := "list") (by rfl) (T.free_isinstance) (by decide +kernel) (le_var 1) (by rfl) (T.free_list) (by decide +kernel))) (le_or1 (le_test (le_isi (T := "tuple") (by rfl) (T.free_isinstance) (by decide +kernel) (le_var 1) (by rfl) (T.free_tuple) (by decide +kernel))))))
 (le_seq (le_if (L2.PW.pt (le_or (le_tcmp (op_neA hr.units) sv_ne (le_isi (T := "list") (by rfl) (T.free_isinstance) (by decide +kernel) (le_var 1) (by rfl) (T.free_list) (by decide +kernel)) (le_isi (T := "list") (by rfl) (T.free_isinstance) (by decide +kernel) (le_var 0) (by rfl) (T.free_list) (by decide +kernel)) (nomark _)) (le_or1 (le_tcmp (op_neA hr.units) sv_ne (le_isi (T := "tuple") (by rfl) (T.free_isinstance) (by decide +kernel) (le_var 1) (by rfl) (T.free_tuple) (by decide +kernel)) (le_isi (T := "tuple") (by rfl) (T.free_isinstance) (by decide +kernel) (le_var 0) (by rfl) (T.free_tuple) (by decide +kernel)) (nomark _)))))
 (le_one (le_ret le_bl))
 le_nil)
 (le_seq (le_if (le_tcmp (op_neA hr.units) sv_ne (le_callB call_len sv_len (by rfl) (T.free_len) (by decide +kernel) (le_acons (le_var 0) le_anil)) (le_callB call_len sv_len (by rfl) (T.free_len) (by decide +kernel) (le_acons (le_var 1) le_anil)) (nomark _))
 (le_one (le_ret le_bl))
 le_nil)
 (le_seq (le_for (passes_of rfl) rfl (le_rg1 (by rfl) (T.free_range) (le_acons (le_callB call_len sv_len (by rfl) (T.free_len) (by decide +kernel) (le_acons (le_var 1) le_anil)) le_anil)) (le_gname (i := 2) sc__law_same.nd)
 (le_one (le_if (le_not (le_test (le_callX OK (takes_of rfl rfl rfl rfl) hr (by rfl) (le_acons (le_ix ix_seq sv_ix (le_var 0) (le_var 2) (fun _ _ => rfl)) (le_acons (le_ix ix_seq sv_ix (le_var 1) (le_var 2) (fun _ _ => rfl)) le_anil)) (fun _ _ _ _ h => len_cons (fun _ _ _ _ h => len_cons (fun _ _ _ _ h => len_nil h) h) h))))
 (le_one (le_ret le_bl))
 le_nil)))
 (le_one (le_ret le_bl)))))
 le_nil)
 (le_seq (le_if (le_tisN (le_var 1))
 (le_one (le_ret (le_isN (le_var 0))))
 le_nil)
 (le_seq (le_if (le_test (le_isi (T := "bool") (by rfl) (T.free_isinstance) (by decide +kernel) (le_var 1) (by rfl) (T.free_bool) (by decide +kernel)))
 (le_one (le_ret (le_andV (le_isi (T := "bool") (by rfl) (T.free_isinstance) (by decide +kernel) (le_var 0) (by rfl) (T.free_bool) (by decide +kernel)) (le_oneV (le_cmp (op_eqA hr.units) sv_eq (le_var 0) (le_var 1) (nomark _))))))
 le_nil)
 (le_seq (le_if (le_test (le_isi (T := "str") (by rfl) (T.free_isinstance) (by decide +kernel) (le_var 1) (by rfl) (T.free_str) (by decide +kernel)))
 (le_one (le_ret (le_andV (le_isi (T := "str") (by rfl) (T.free_isinstance) (by decide +kernel) (le_var 0) (by rfl) (T.free_str) (by decide +kernel)) (le_oneV (le_cmp (op_eqA hr.units) sv_eq (le_var 0) (le_var 1) (nomark _))))))
 le_nil)
 (le_one (le_ret (le_andV (le_isi (T := "int") (by rfl) (T.free_isinstance) (by decide +kernel) (le_var 0) (by rfl) (T.free_int) (by decide +kernel)) (le_andV (le_notV (le_isi (T := "bool") (by rfl) (T.free_isinstance) (by decide +kernel) (le_var 0) (by rfl) (T.free_bool) (by decide +kernel))) (le_oneV (le_cmp (op_eqA hr.units) sv_eq (le_var 0) (le_var 1) (nomark _)))))))))))
/-! _law_run -/
abbrev s__law_run : Stmt := top 16
theorem sc__law_run : FnScope ["box", "many", "chars", "text", "k"] ["box", "many", "chars"] (defScope s__law_run) := ⟨rfl, rfl, rfl, by decide +kernel, rfl, by decide +kernel, by decide +kernel⟩
noncomputable def S__law_run_1 : DS :=
 (sAsg 3 (eCst (.str (lit ""))))
noncomputable def S__law_run_3 : DS :=
 (sAsg 3 (eBin bAdd (eVar 3) (eBin bIx (eVar 2) (eCall F__law_draw (aCons (eVar 0) (aCons (eApp fLen (aCons (eVar 2) aNil)) aNil))))))
noncomputable def L__law_run_2 : DS :=
 S__law_run_3
noncomputable def S__law_run_2 : DS :=
 (sFor (gN 4) (iRg1 (aCons (eVar 1) aNil)) L__law_run_2)
noncomputable def S__law_run_4 : DS :=
 (sRet (eVar 3))
noncomputable def B__law_run : DS :=
 (sSeq S__law_run_1
 (sSeq S__law_run_2
 S__law_run_4))
noncomputable def F__law_run : DF := runF 5 B__law_run
theorem ok__law_run (T : Tx K mg) : FnX P w K mg base "_law_run" 2 ["box", "many", "chars"] F__law_run :=
  fnX T.def__law_run T.glo__law_run sc__law_run rfl (fun _ _ _ _ _ _ us hl => match us, hl with | [_, _, _], _ => rfl) fun f cdv A outer s H E hr =>
 (le_seq (le_set (i := 3) sc__law_run.nd le_lit)
 (le_seq (le_for (passes_of rfl) rfl (le_rg1 (by rfl) (T.free_range) (le_acons (le_var 1) le_anil)) (le_gname (i := 4) sc__law_run.nd)
 (le_one (le_set (i := 3) sc__law_run.nd (le_op op_addA sv_add (le_var 3) (le_ix ix_seq sv_ix (le_var 2) (le_callX (ok__law_draw T) (takes_of rfl rfl rfl rfl) (hr.mono (by decide)) (by rfl) (le_acons (le_var 0) (le_acons (le_callB call_len sv_len (by rfl) (T.free_len) (by decide +kernel) (le_acons (le_var 2) le_anil)) le_anil)) (fun _ _ _ _ h => len_cons (fun _ _ _ _ h => len_cons (fun _ _ _ _ h => len_nil h) h) h)) (fun _ _ => rfl))))))
 (le_one (le_ret (le_var 3)))))
/-! _law_token -/
abbrev s__law_token : Stmt := top 17
theorem sc__law_token : FnScope ["box", "kind", "text"] ["box"] (defScope s__law_token) := ⟨rfl, rfl, rfl, by decide +kernel, rfl, by decide +kernel, by decide +kernel⟩
noncomputable def S__law_token_1 : DS :=
 (sAsg 1 (eCall F__law_draw (aCons (eVar 0) (aCons (eCst (.int 5)) aNil))))
noncomputable def C__law_token_2 : DT :=
 (dT (eBin cLt (eVar 1) (eCst (.int 2))))
noncomputable def S__law_token_3 : DS :=
 (sAsg 2 (eCall F__law_run (aCons (eVar 0) (aCons (eBin bAdd (eCst (.int 1)) (eCall F__law_draw (aCons (eVar 0) (aCons (eBin bIx (eLst (aCons (eCst (.int 4)) (aCons (eCst (.int 15)) aNil))) (eCall F__law_draw (aCons (eVar 0) (aCons (eCst (.int 2)) aNil)))) aNil)))) (aCons (eCst (.str (lit "abcdefghijklmnopqrstuvwxyz"))) aNil)))))
noncomputable def S__law_token_4 : DS :=
 (sRet (eLst (aCons (eBin bIx (eLst (aCons (eCst (.str (lit "name"))) (aCons (eCst (.str (lit "bad"))) aNil))) (eApp fInt (aCons (eBin cGt (eApp fLen (aCons (eVar 2) aNil)) (eCst (.int 12))) aNil))) (aCons (eVar 2) aNil))))
noncomputable def S__law_token_2 : DS :=
 (sIf C__law_token_2
 (sSeq S__law_token_3
 S__law_token_4)
 sNil)
noncomputable def C__law_token_5 : DT :=
 (dT (eBin (cEqB false) (eVar 1) (eCst (.int 2))))
noncomputable def S__law_token_6 : DS :=
 (sAsg 2 (eCall F__law_run (aCons (eVar 0) (aCons (eBin bAdd (eCst (.int 1)) (eCall F__law_draw (aCons (eVar 0) (aCons (eCst (.int 6)) aNil)))) (aCons (eCst (.str (lit "0123456789"))) aNil)))))
noncomputable def S__law_token_7 : DS :=
 (sRet (eLst (aCons (eBin bIx (eLst (aCons (eCst (.str (lit "number"))) (aCons (eCst (.str (lit "bad"))) aNil))) (eApp fInt (aCons (eOr (eBin cGt (eApp fLen (aCons (eVar 2) aNil)) (eCst (.int 4))) (eAnd (eBin cGt (eApp fLen (aCons (eVar 2) aNil)) (eCst (.int 1))) (eBin (cEqB false) (eBin bIx (eVar 2) (eCst (.int 0))) (eCst (.str (lit "0")))))) aNil))) (aCons (eVar 2) aNil))))
noncomputable def S__law_token_5 : DS :=
 (sIf C__law_token_5
 (sSeq S__law_token_6
 S__law_token_7)
 sNil)
noncomputable def C__law_token_8 : DT :=
 (dT (eBin (cEqB false) (eVar 1) (eCst (.int 3))))
noncomputable def S__law_token_9 : DS :=
 (sRet (eLst (aCons (eCst (.str (lit "sign"))) (aCons (eBin bIx (eCst (.str (lit ":,;"))) (eCall F__law_draw (aCons (eVar 0) (aCons (eCst (.int 3)) aNil)))) aNil))))
noncomputable def S__law_token_8 : DS :=
 (sIf C__law_token_8
 S__law_token_9
 sNil)
noncomputable def S__law_token_10 : DS :=
 (sRet (eLst (aCons (eCst (.str (lit "bad"))) (aCons (eBin bIx (eCst (.str (lit "ABZ!#$&'()*+-./<=>?\x40[\\]^_`{|}~\""))) (eCall F__law_draw (aCons (eVar 0) (aCons (eCst (.int 30)) aNil)))) aNil))))
noncomputable def B__law_token : DS :=
 (sSeq S__law_token_1
 (sSeq S__law_token_2
 (sSeq S__law_token_5
 (sSeq S__law_token_8
 S__law_token_10))))
noncomputable def F__law_token : DF := runF 3 B__law_token
theorem ok__law_token (T : Tx K mg) : FnX P w K mg base "_law_token" 3 ["box"] F__law_token :=
  fnX T.def__law_token T.glo__law_token sc__law_token rfl (fun _ _ _ _ _ _ us hl => match us, hl with | [_], _ => rfl) fun f cdv A outer s H E hr =>
 (le_seq (le_set (i := 1) sc__law_token.nd (le_callX (ok__law_draw T) (takes_of rfl rfl rfl rfl) (hr.mono (by decide)) (by rfl) (le_acons (le_var 0) (le_acons le_int le_anil)) (fun _ _ _ _ h => len_cons (fun _ _ _ _ h => len_cons (fun _ _ _ _ h => len_nil h) h) h)))
 (le_seq (le_if (le_tcmp op_lt sv_lt (le_var 1) le_int (nomark _))
 (le_seq (le_set (i := 2) sc__law_token.nd (le_callX (ok__law_run T) (takes_of rfl rfl rfl rfl) (hr.mono (by decide)) (by rfl) (le_acons (le_var 0) (le_acons (le_op op_addA sv_add le_int (le_callX (ok__law_draw T) (takes_of rfl rfl rfl rfl) (hr.mono (by decide)) (by rfl) (le_acons (le_var 0) (le_acons (le_ix ix_seq sv_ix (le_lst (le_acons le_int (le_acons le_int le_anil))) (le_callX (ok__law_draw T) (takes_of rfl rfl rfl rfl) (hr.mono (by decide)) (by rfl) (le_acons (le_var 0) (le_acons le_int le_anil)) (fun _ _ _ _ h => len_cons (fun _ _ _ _ h => len_cons (fun _ _ _ _ h => len_nil h) h) h)) (fun _ _ => rfl)) le_anil)) (fun _ _ _ _ h => len_cons (fun _ _ _ _ h => len_cons (fun _ _ _ _ h => len_nil h) h) h))) (le_acons le_lit le_anil))) (fun _ _ _ _ h => len_cons (fun _ _ _ _ h => len_cons (fun _ _ _ _ h => len_cons (fun _ _ _ _ h => len_nil h) h) h) h)))
 (le_one (le_ret (le_lst (le_acons (le_ix ix_seq sv_ix (le_lst (le_acons le_lit (le_acons le_lit le_anil))) (le_callTy call_intA sv_int (by rfl) (T.free_int) (by decide +kernel) (le_acons (le_cmp op_gt sv_gt (le_callB call_len sv_len (by rfl) (T.free_len) (by decide +kernel) (le_acons (le_var 2) le_anil)) le_int (nomark _)) le_anil)) (fun _ _ => rfl)) (le_acons (le_var 2) le_anil))))))
 le_nil)
 (le_seq (le_if (le_tcmp (op_eqA hr.units) sv_eq (le_var 1) le_int (nomark _))
 (le_seq (le_set (i := 2) sc__law_token.nd (le_callX (ok__law_run T) (takes_of rfl rfl rfl rfl) (hr.mono (by decide)) (by rfl) (le_acons (le_var 0) (le_acons (le_op op_addA sv_add le_int (le_callX (ok__law_draw T) (takes_of rfl rfl rfl rfl) (hr.mono (by decide)) (by rfl) (le_acons (le_var 0) (le_acons le_int le_anil)) (fun _ _ _ _ h => len_cons (fun _ _ _ _ h => len_cons (fun _ _ _ _ h => len_nil h) h) h))) (le_acons le_lit le_anil))) (fun _ _ _ _ h => len_cons (fun _ _ _ _ h => len_cons (fun _ _ _ _ h => len_cons (fun _ _ _ _ h => len_nil h) h) h) h)))
 (le_one (le_ret (le_lst (le_acons (le_ix ix_seq sv_ix (le_lst (le_acons le_lit (le_acons le_lit le_anil))) (le_callTy call_intA sv_int (by rfl) (T.free_int) (by decide +kernel) (le_acons (le_orV (le_cmp op_gt sv_gt (le_callB call_len sv_len (by rfl) (T.free_len) (by decide +kernel) (le_acons (le_var 2) le_anil)) le_int (nomark _)) (le_oneV (le_andV (le_cmp op_gt sv_gt (le_callB call_len sv_len (by rfl) (T.free_len) (by decide +kernel) (le_acons (le_var 2) le_anil)) le_int (nomark _)) (le_oneV (le_cmp (op_eqA hr.units) sv_eq (le_ix ix_seq sv_ix (le_var 2) le_int (fun _ _ => rfl)) le_lit (nomark _)))))) le_anil)) (fun _ _ => rfl)) (le_acons (le_var 2) le_anil))))))
 le_nil)
 (le_seq (le_if (le_tcmp (op_eqA hr.units) sv_eq (le_var 1) le_int (nomark _))
 (le_one (le_ret (le_lst (le_acons le_lit (le_acons (le_ix ix_seq sv_ix le_lit (le_callX (ok__law_draw T) (takes_of rfl rfl rfl rfl) (hr.mono (by decide)) (by rfl) (le_acons (le_var 0) (le_acons le_int le_anil)) (fun _ _ _ _ h => len_cons (fun _ _ _ _ h => len_cons (fun _ _ _ _ h => len_nil h) h) h)) (fun _ _ => rfl)) le_anil)))))
 le_nil)
 (le_one (le_ret (le_lst (le_acons le_lit (le_acons (le_ix ix_seq sv_ix le_lit (le_callX (ok__law_draw T) (takes_of rfl rfl rfl rfl) (hr.mono (by decide)) (by rfl) (le_acons (le_var 0) (le_acons le_int le_anil)) (fun _ _ _ _ h => len_cons (fun _ _ _ _ h => len_cons (fun _ _ _ _ h => len_nil h) h) h)) (fun _ _ => rfl)) le_anil)))))))))
/-! _law_sort -/
abbrev s__law_sort : Stmt := top 18
theorem sc__law_sort : FnScope ["text"] ["text"] (defScope s__law_sort) := ⟨rfl, rfl, rfl, by decide +kernel, rfl, by decide +kernel, by decide +kernel⟩
noncomputable def C__law_sort_1 : DT :=
 (dT (eBin (cIn false) (eBin bIx (eVar 0) (eCst (.int 0))) (eCst (.str (lit "0123456789")))))
noncomputable def S__law_sort_2 : DS :=
 (sRet (eCst (.int 1)))
noncomputable def S__law_sort_1 : DS :=
 (sIf C__law_sort_1
 S__law_sort_2
 sNil)
noncomputable def S__law_sort_3 : DS :=
 (sRet (eBin bMul (eCst (.int 2)) (eApp fInt (aCons (eBin (cIn false) (eBin bIx (eVar 0) (eCst (.int 0))) (eCst (.str (lit "abcdefghijklmnopqrstuvwxyz")))) aNil))))
noncomputable def B__law_sort : DS :=
 (sSeq S__law_sort_1
 S__law_sort_3)
noncomputable def F__law_sort : DF := runF 1 B__law_sort
theorem ok__law_sort (T : Tx K mg) : FnX P w K mg base "_law_sort" 1 ["text"] F__law_sort :=
  fnX T.def__law_sort T.glo__law_sort sc__law_sort rfl (fun _ _ _ _ _ _ us hl => match us, hl with | [_], _ => rfl) fun f cdv A outer s H E hr =>
 (le_seq (le_if (le_tcmp op_inA (sv_in false) (le_ix ix_seq sv_ix (le_var 0) le_int (fun _ _ => rfl)) le_lit (by rfl))
 (le_one (le_ret le_int))
 le_nil)
 (le_one (le_ret (le_op op_mulA sv_mul le_int (le_callTy call_intA sv_int (by rfl) (T.free_int) (by decide +kernel) (le_acons (le_cmp op_inA (sv_in false) (le_ix ix_seq sv_ix (le_var 0) le_int (fun _ _ => rfl)) le_lit (by rfl)) le_anil))))))
/-! law -/
abbrev s_law : Stmt := top 19
theorem sc_law : FnScope ["script", "box", "due", "text", "k", "token", "spaces"] ["script"] (defScope s_law) := ⟨rfl, rfl, rfl, by decide +kernel, rfl, by decide +kernel, by decide +kernel⟩
noncomputable def S_law_1 : DS :=
 (sAsg 1 (eNew (aCons (eCall F__law_digits (aCons (eVar 0) (aCons (eCst (.int 0)) (aCons (eCst (.int 63)) aNil)))) (aCons (eCst (.int 0)) aNil))))
noncomputable def S_law_2 : DS :=
 (sAsg 2 (eNew aNil))
noncomputable def S_law_3 : DS :=
 (sAsg 3 (eBin bMul (eCst (.str (lit " "))) (eCall F__law_draw (aCons (eVar 1) (aCons (eCst (.int 2)) aNil)))))
noncomputable def S_law_5 : DS :=
 (sAsg 5 (eCall F__law_token (aCons (eVar 1) aNil)))
noncomputable def S_law_6 : DS :=
 (sAsg 6 (eBin bFdiv (eCall F__law_draw (aCons (eVar 1) (aCons (eCst (.int 6)) aNil))) (eCst (.int 3))))
noncomputable def C_law_7 : DT :=
 (dAnd (dT (eBin cGt (eApp fLen (aCons (eVar 2) aNil)) (eCst (.int 0)))) (dAnd (dT (eBin cGt (eCall F__law_sort (aCons (eBin bIx (eVar 5) (eCst (.int 1))) aNil)) (eCst (.int 0)))) (dT (eBin (cEqB false) (eCall F__law_sort (aCons (eBin bIx (eVar 5) (eCst (.int 1))) aNil)) (eCall F__law_sort (aCons (eBin bIx (eBin bIx (eVar 2) (eUn bNeg (eCst (.int 1)))) (eCst (.int 1))) aNil))))))
noncomputable def S_law_8 : DS :=
 (sAsg 6 (eApp fMax (aCons (eCst (.int 1)) (aCons (eVar 6) aNil))))
noncomputable def S_law_7 : DS :=
 (sIf C_law_7
 S_law_8
 sNil)
noncomputable def S_law_9 : DS :=
 (sExp (eMt isLst mAppend (eVar 2) (aCons (eTup (aCons (eBin bIx (eVar 5) (eCst (.int 0))) (aCons (eBin bIx (eVar 5) (eCst (.int 1))) aNil))) aNil)))
noncomputable def S_law_10 : DS :=
 (sAsg 3 (eBin bAdd (eBin bAdd (eVar 3) (eBin bMul (eCst (.str (lit " "))) (eVar 6))) (eBin bIx (eVar 5) (eCst (.int 1)))))
noncomputable def L_law_4 : DS :=
 (sSeq S_law_5
 (sSeq S_law_6
 (sSeq S_law_7
 (sSeq S_law_9
 S_law_10))))
noncomputable def S_law_4 : DS :=
 (sFor (gN 4) (iRg1 (aCons (eCall F__law_draw (aCons (eVar 1) (aCons (eCst (.int 15)) aNil))) aNil)) L_law_4)
noncomputable def S_law_11 : DS :=
 (sRet (eCall (F__law_same 4) (aCons (eCall F_tokens (aCons (eBin bAdd (eVar 3) (eBin bMul (eCst (.str (lit " "))) (eCall F__law_draw (aCons (eVar 1) (aCons (eCst (.int 2)) aNil))))) aNil)) (aCons (eVar 2) aNil))))
noncomputable def B_law : DS :=
 (sSeq S_law_1
 (sSeq S_law_2
 (sSeq S_law_3
 (sSeq S_law_4
 S_law_11))))
noncomputable def F_law : DF := runF 7 B_law
theorem ok_law (T : Tx K mg) : FnX P w K mg base "law" 6 ["script"] F_law :=
  fnX T.def_law T.glo_law sc_law rfl (fun _ _ _ _ _ _ us hl => match us, hl with | [_], _ => rfl) fun f cdv A outer s H E hr =>
 (le_seq (le_set (i := 1) sc_law.nd (le_new (le_acons (le_callX (ok__law_digits T) (takes_of rfl rfl rfl rfl) (hr.mono (by decide)) (by rfl) (le_acons (le_var 0) (le_acons le_int (le_acons le_int le_anil))) (fun _ _ _ _ h => len_cons (fun _ _ _ _ h => len_cons (fun _ _ _ _ h => len_cons (fun _ _ _ _ h => len_nil h) h) h) h)) (le_acons le_int le_anil))))
 (le_seq (le_set (i := 2) sc_law.nd (le_new le_anil))
 (le_seq (le_set (i := 3) sc_law.nd (le_op op_mulA sv_mul le_lit (le_callX (ok__law_draw T) (takes_of rfl rfl rfl rfl) (hr.mono (by decide)) (by rfl) (le_acons (le_var 1) (le_acons le_int le_anil)) (fun _ _ _ _ h => len_cons (fun _ _ _ _ h => len_cons (fun _ _ _ _ h => len_nil h) h) h))))
 (le_seq (le_for (passes_of rfl) rfl (le_rg1 (by rfl) (T.free_range) (le_acons (le_callX (ok__law_draw T) (takes_of rfl rfl rfl rfl) (hr.mono (by decide)) (by rfl) (le_acons (le_var 1) (le_acons le_int le_anil)) (fun _ _ _ _ h => len_cons (fun _ _ _ _ h => len_cons (fun _ _ _ _ h => len_nil h) h) h)) le_anil)) (le_gname (i := 4) sc_law.nd)
 (le_seq (le_set (i := 5) sc_law.nd (le_callX (ok__law_token T) (takes_of rfl rfl rfl rfl) (hr.mono (by decide)) (by rfl) (le_acons (le_var 1) le_anil) (fun _ _ _ _ h => len_cons (fun _ _ _ _ h => len_nil h) h)))
 (le_seq (le_set (i := 6) sc_law.nd (le_op op_fdiv sv_fdiv (le_callX (ok__law_draw T) (takes_of rfl rfl rfl rfl) (hr.mono (by decide)) (by rfl) (le_acons (le_var 1) (le_acons le_int le_anil)) (fun _ _ _ _ h => len_cons (fun _ _ _ _ h => len_cons (fun _ _ _ _ h => len_nil h) h) h)) le_int))
 (le_seq (le_if (L2.PW.pt (le_and (le_tcmp op_gt sv_gt (le_callB call_len sv_len (by rfl) (T.free_len) (by decide +kernel) (le_acons (le_var 2) le_anil)) le_int (nomark _)) (le_and (le_tcmp op_gt sv_gt (le_callX (ok__law_sort T) (takes_of rfl rfl rfl rfl) (hr.mono (by decide)) (by rfl) (le_acons (le_ix ix_seq sv_ix (le_var 5) le_int (fun _ _ => rfl)) le_anil) (fun _ _ _ _ h => len_cons (fun _ _ _ _ h => len_nil h) h)) le_int (nomark _)) (le_and1 (le_tcmp (op_eqA hr.units) sv_eq (le_callX (ok__law_sort T) (takes_of rfl rfl rfl rfl) (hr.mono (by decide)) (by rfl) (le_acons (le_ix ix_seq sv_ix (le_var 5) le_int (fun _ _ => rfl)) le_anil) (fun _ _ _ _ h => len_cons (fun _ _ _ _ h => len_nil h) h)) (le_callX (ok__law_sort T) (takes_of rfl rfl rfl rfl) (hr.mono (by decide)) (by rfl) (le_acons (le_ix ix_seq sv_ix (le_ix ix_seq sv_ix (le_var 2) (le_neg le_int) (fun _ _ => rfl)) le_int (fun _ _ => rfl)) le_anil) (fun _ _ _ _ h => len_cons (fun _ _ _ _ h => len_nil h) h)) (nomark _))))))
 (le_one (le_set (i := 6) sc_law.nd (le_callB (call_max2 rfl) sv_max (by rfl) (T.free_max) (by decide +kernel) (le_acons le_int (le_acons (le_var 6) le_anil)))))
 le_nil)
 (le_seq (le_exp (le_mt PySem.F.plainAttrs_list PySem.F.slot_list_append PySem.F.type_list_append mt_append knd_lst sm_append (le_var 2) (le_acons (le_tup (le_acons (le_ix ix_seq sv_ix (le_var 5) le_int (fun _ _ => rfl)) (le_acons (le_ix ix_seq sv_ix (le_var 5) le_int (fun _ _ => rfl)) le_anil))) le_anil)))
 (le_one (le_set (i := 3) sc_law.nd (le_op op_addA sv_add (le_op op_addA sv_add (le_var 3) (le_op op_mulA sv_mul le_lit (le_var 6))) (le_ix ix_seq sv_ix (le_var 5) le_int (fun _ _ => rfl))))))))))
 (le_one (le_ret (le_callX (ok__law_same T 4) (takes_of rfl rfl rfl rfl) (hr.mono (by decide)) (by rfl) (le_acons (le_callX (ok_tokens T) (takes_of rfl rfl rfl rfl) (hr.mono (by decide)) (by rfl) (le_acons (le_op op_addA sv_add (le_var 3) (le_op op_mulA sv_mul le_lit (le_callX (ok__law_draw T) (takes_of rfl rfl rfl rfl) (hr.mono (by decide)) (by rfl) (le_acons (le_var 1) (le_acons le_int le_anil)) (fun _ _ _ _ h => len_cons (fun _ _ _ _ h => len_cons (fun _ _ _ _ h => len_nil h) h) h)))) le_anil) (fun _ _ _ _ h => len_cons (fun _ _ _ _ h => len_nil h) h)) (le_acons (le_var 2) le_anil)) (fun _ _ _ _ h => len_cons (fun _ _ _ _ h => len_cons (fun _ _ _ _ h => len_nil h) h) h))))))))
end
-- LOOSE (["__name__", "LETTERS", "DIGITS", "SIGNS", "MOST_LETTERS", "MOST_DIGITS", "tokens", "string_at", "end_of_run", "kind_of", "is_number", "_law_cell", "_law_digits", "_law_draw", "_law_same", "_law_run", "_law_token", "_law_sort"] : List Str)

/-! ## the law's draws -/
def box (ds : List Int) (at_ : Nat) : Ob := .lst [.lst (ds.map D.int), .int at_]
def drawV (ds : List Int) (at_ : Nat) (m : Int) : Int := match ds[at_]? with | some d => d % m | none => 0
theorem draw_range (ds : List Int) (at_ : Nat) {m : Int} (h : 0 < m) : 0 ≤ drawV ds at_ m ∧ drawV ds at_ m < m := by
  unfold drawV
  split
  · exact ⟨Int.emod_nonneg _ (by omega), Int.emod_lt_of_pos _ h⟩
  · exact ⟨Int.le_refl _, h⟩
theorem draw_eq {ds : List Int} {at_ : Nat} {m : Int} {G : GS} (hm : 0 < m) :
    F__law_draw [.ref 0, .int m] (box ds at_ :: G) = .ok (.int (drawV ds at_ m)) (box ds (at_ + 1) :: G) := by
  unfold box
  simp only [S__law_draw_1, S__law_draw_2, C__law_draw_3, S__law_draw_4, S__law_draw_3, S__law_draw_5, B__law_draw, F__law_draw, runF, sSeq, sAsg, sSetI, sIf, sRet, sRetN, sExp, sBrk, sCont, sNil, sFor, sAug, sAsgG, asgR, gN, gT, gsCons, gsNil, iSeqL, iSeqT, iRg1, iRg2, eBin, eUn, eVar, eCst, eApp, eCall, eTup, eLst, eNew, eSl, oSome, oNone, aCons, aNil, dT, dAnd, dOr, dNot, eAnd, eOr, eNot, eIf, truth, eMt, isLst, isStr, seqOf, lstOf, setI, bIx, bAdd, bSub, bNeg, bIadd, cLt, cLe, cGt, cGe, cIsN, fLen, fMax, fMin, fAbs, fInt, fStr, fTuple, fList, mAppend, bSl, bindE_ok, bindE_exc, bindE_bad, bindS_ok, bindS_exc, bindS_bad, seqR_nx, seqR_ret, seqR_brk, seqR_cont, seqR_exc, seqR_bad, turnR_nx, turnR_ret, turnR_brk, turnR_cont, turnR_exc, turnR_bad, atI_0, atI_1, atI_lit, atI_natC, ixN_0, ixN_1, ixN_nat, List.map_cons, List.map_nil, List.length_cons, List.length_nil, List.length_map, List.cons_append, List.nil_append, List.replicate, List.getElem?_cons_zero, List.getElem?_cons_succ, List.set_cons_zero, List.set_cons_succ, List.length_set, Option.isSome_some, Nat.sub_self, Nat.reduceAdd, Nat.reduceSub, Nat.reduceLT, if_true, if_false, ite_true, ite_false, reduceIte, Bool.false_eq_true, decide_eq_true_eq, Bool.not_true, Bool.not_false, Nat.zero_add, true_and, and_true, false_and, and_false, and_self, Bool.xor_false, Bool.false_xor, Bool.true_xor, Bool.xor_true, get_new, set_new, get_new1, set_new1, le_0, le_1, le_2, le_3, le_4, le_5, le_6, le_7, le_8, cIn_one, cEq_int, cEq_str, cEq_bl]
  by_cases h : at_ < ds.length
  · have e : (ds.map D.int)[at_]? = some (.int ds[at_]) := by simp [h]
    have e2 : drawV ds at_ m = ds[at_] % m := by unfold drawV; rw [List.getElem?_eq_getElem h]
    simp only [Int.ofNat_lt, h, e, e2, modL _ _ hm, runF, sSeq, sAsg, sSetI, sIf, sRet, sRetN, sExp, sBrk, sCont, sNil, sFor, sAug, sAsgG, asgR, gN, gT, gsCons, gsNil, iSeqL, iSeqT, iRg1, iRg2, eBin, eUn, eVar, eCst, eApp, eCall, eTup, eLst, eNew, eSl, oSome, oNone, aCons, aNil, dT, dAnd, dOr, dNot, eAnd, eOr, eNot, eIf, truth, eMt, isLst, isStr, seqOf, lstOf, setI, bIx, bAdd, bSub, bNeg, bIadd, cLt, cLe, cGt, cGe, cIsN, fLen, fMax, fMin, fAbs, fInt, fStr, fTuple, fList, mAppend, bSl, bindE_ok, bindE_exc, bindE_bad, bindS_ok, bindS_exc, bindS_bad, seqR_nx, seqR_ret, seqR_brk, seqR_cont, seqR_exc, seqR_bad, turnR_nx, turnR_ret, turnR_brk, turnR_cont, turnR_exc, turnR_bad, atI_0, atI_1, atI_lit, atI_natC, ixN_0, ixN_1, ixN_nat, List.map_cons, List.map_nil, List.length_cons, List.length_nil, List.length_map, List.cons_append, List.nil_append, List.replicate, List.getElem?_cons_zero, List.getElem?_cons_succ, List.set_cons_zero, List.set_cons_succ, List.length_set, Option.isSome_some, Nat.sub_self, Nat.reduceAdd, Nat.reduceSub, Nat.reduceLT, if_true, if_false, ite_true, ite_false, reduceIte, Bool.false_eq_true, decide_eq_true_eq, Bool.not_true, Bool.not_false, Nat.zero_add, true_and, and_true, false_and, and_false, and_self, Bool.xor_false, Bool.false_xor, Bool.true_xor, Bool.xor_true, get_new, set_new, get_new1, set_new1, le_0, le_1, le_2, le_3, le_4, le_5, le_6, le_7, le_8, cIn_one, cEq_int, cEq_str, cEq_bl]
    rw [finish_same (by simp)]
    rfl
  · have e2 : drawV ds at_ m = 0 := by unfold drawV; rw [List.getElem?_eq_none (by omega)]
    simp only [Int.ofNat_lt, h, e2, runF, sSeq, sAsg, sSetI, sIf, sRet, sRetN, sExp, sBrk, sCont, sNil, sFor, sAug, sAsgG, asgR, gN, gT, gsCons, gsNil, iSeqL, iSeqT, iRg1, iRg2, eBin, eUn, eVar, eCst, eApp, eCall, eTup, eLst, eNew, eSl, oSome, oNone, aCons, aNil, dT, dAnd, dOr, dNot, eAnd, eOr, eNot, eIf, truth, eMt, isLst, isStr, seqOf, lstOf, setI, bIx, bAdd, bSub, bNeg, bIadd, cLt, cLe, cGt, cGe, cIsN, fLen, fMax, fMin, fAbs, fInt, fStr, fTuple, fList, mAppend, bSl, bindE_ok, bindE_exc, bindE_bad, bindS_ok, bindS_exc, bindS_bad, seqR_nx, seqR_ret, seqR_brk, seqR_cont, seqR_exc, seqR_bad, turnR_nx, turnR_ret, turnR_brk, turnR_cont, turnR_exc, turnR_bad, atI_0, atI_1, atI_lit, atI_natC, ixN_0, ixN_1, ixN_nat, List.map_cons, List.map_nil, List.length_cons, List.length_nil, List.length_map, List.cons_append, List.nil_append, List.replicate, List.getElem?_cons_zero, List.getElem?_cons_succ, List.set_cons_zero, List.set_cons_succ, List.length_set, Option.isSome_some, Nat.sub_self, Nat.reduceAdd, Nat.reduceSub, Nat.reduceLT, if_true, if_false, ite_true, ite_false, reduceIte, Bool.false_eq_true, decide_eq_true_eq, Bool.not_true, Bool.not_false, Nat.zero_add, true_and, and_true, false_and, and_false, and_self, Bool.xor_false, Bool.false_xor, Bool.true_xor, Bool.xor_true, get_new, set_new, get_new1, set_new1, le_0, le_1, le_2, le_3, le_4, le_5, le_6, le_7, le_8, cIn_one, cEq_int, cEq_str, cEq_bl]
    rw [finish_same (by simp)]
    rfl
theorem cell_eq {ns : List Int} {k : Nat} {G : GS} : ∃ c, F__law_cell [.scr ns, .int k] G = .ok (.int c) G := by
  simp only [C__law_cell_1, S__law_cell_2, S__law_cell_1, S__law_cell_3, B__law_cell, F__law_cell, runF, sSeq, sAsg, sSetI, sIf, sRet, sRetN, sExp, sBrk, sCont, sNil, sFor, sAug, sAsgG, asgR, gN, gT, gsCons, gsNil, iSeqL, iSeqT, iRg1, iRg2, eBin, eUn, eVar, eCst, eApp, eCall, eTup, eLst, eNew, eSl, oSome, oNone, aCons, aNil, dT, dAnd, dOr, dNot, eAnd, eOr, eNot, eIf, truth, eMt, isLst, isStr, seqOf, lstOf, setI, bIx, bAdd, bSub, bNeg, bIadd, cLt, cLe, cGt, cGe, cIsN, fLen, fMax, fMin, fAbs, fInt, fStr, fTuple, fList, mAppend, bSl, bindE_ok, bindE_exc, bindE_bad, bindS_ok, bindS_exc, bindS_bad, seqR_nx, seqR_ret, seqR_brk, seqR_cont, seqR_exc, seqR_bad, turnR_nx, turnR_ret, turnR_brk, turnR_cont, turnR_exc, turnR_bad, atI_0, atI_1, atI_lit, atI_natC, ixN_0, ixN_1, ixN_nat, List.map_cons, List.map_nil, List.length_cons, List.length_nil, List.length_map, List.cons_append, List.nil_append, List.replicate, List.getElem?_cons_zero, List.getElem?_cons_succ, List.set_cons_zero, List.set_cons_succ, List.length_set, Option.isSome_some, Nat.sub_self, Nat.reduceAdd, Nat.reduceSub, Nat.reduceLT, if_true, if_false, ite_true, ite_false, reduceIte, Bool.false_eq_true, decide_eq_true_eq, Bool.not_true, Bool.not_false, Nat.zero_add, true_and, and_true, false_and, and_false, and_self, Bool.xor_false, Bool.false_xor, Bool.true_xor, Bool.xor_true, get_new, set_new, get_new1, set_new1, le_0, le_1, le_2, le_3, le_4, le_5, le_6, le_7, le_8, cIn_one, cEq_int, cEq_str, cEq_bl]
  by_cases h : k < ns.length
  · refine ⟨ns[k], ?_⟩
    have e : ns[k]? = some ns[k] := List.getElem?_eq_getElem h
    simp only [Int.ofNat_lt, h, e, runF, sSeq, sAsg, sSetI, sIf, sRet, sRetN, sExp, sBrk, sCont, sNil, sFor, sAug, sAsgG, asgR, gN, gT, gsCons, gsNil, iSeqL, iSeqT, iRg1, iRg2, eBin, eUn, eVar, eCst, eApp, eCall, eTup, eLst, eNew, eSl, oSome, oNone, aCons, aNil, dT, dAnd, dOr, dNot, eAnd, eOr, eNot, eIf, truth, eMt, isLst, isStr, seqOf, lstOf, setI, bIx, bAdd, bSub, bNeg, bIadd, cLt, cLe, cGt, cGe, cIsN, fLen, fMax, fMin, fAbs, fInt, fStr, fTuple, fList, mAppend, bSl, bindE_ok, bindE_exc, bindE_bad, bindS_ok, bindS_exc, bindS_bad, seqR_nx, seqR_ret, seqR_brk, seqR_cont, seqR_exc, seqR_bad, turnR_nx, turnR_ret, turnR_brk, turnR_cont, turnR_exc, turnR_bad, atI_0, atI_1, atI_lit, atI_natC, ixN_0, ixN_1, ixN_nat, List.map_cons, List.map_nil, List.length_cons, List.length_nil, List.length_map, List.cons_append, List.nil_append, List.replicate, List.getElem?_cons_zero, List.getElem?_cons_succ, List.set_cons_zero, List.set_cons_succ, List.length_set, Option.isSome_some, Nat.sub_self, Nat.reduceAdd, Nat.reduceSub, Nat.reduceLT, if_true, if_false, ite_true, ite_false, reduceIte, Bool.false_eq_true, decide_eq_true_eq, Bool.not_true, Bool.not_false, Nat.zero_add, true_and, and_true, false_and, and_false, and_self, Bool.xor_false, Bool.false_xor, Bool.true_xor, Bool.xor_true, get_new, set_new, get_new1, set_new1, le_0, le_1, le_2, le_3, le_4, le_5, le_6, le_7, le_8, cIn_one, cEq_int, cEq_str, cEq_bl]
    exact finish_same rfl
  · refine ⟨0, ?_⟩
    simp only [Int.ofNat_lt, h, runF, sSeq, sAsg, sSetI, sIf, sRet, sRetN, sExp, sBrk, sCont, sNil, sFor, sAug, sAsgG, asgR, gN, gT, gsCons, gsNil, iSeqL, iSeqT, iRg1, iRg2, eBin, eUn, eVar, eCst, eApp, eCall, eTup, eLst, eNew, eSl, oSome, oNone, aCons, aNil, dT, dAnd, dOr, dNot, eAnd, eOr, eNot, eIf, truth, eMt, isLst, isStr, seqOf, lstOf, setI, bIx, bAdd, bSub, bNeg, bIadd, cLt, cLe, cGt, cGe, cIsN, fLen, fMax, fMin, fAbs, fInt, fStr, fTuple, fList, mAppend, bSl, bindE_ok, bindE_exc, bindE_bad, bindS_ok, bindS_exc, bindS_bad, seqR_nx, seqR_ret, seqR_brk, seqR_cont, seqR_exc, seqR_bad, turnR_nx, turnR_ret, turnR_brk, turnR_cont, turnR_exc, turnR_bad, atI_0, atI_1, atI_lit, atI_natC, ixN_0, ixN_1, ixN_nat, List.map_cons, List.map_nil, List.length_cons, List.length_nil, List.length_map, List.cons_append, List.nil_append, List.replicate, List.getElem?_cons_zero, List.getElem?_cons_succ, List.set_cons_zero, List.set_cons_succ, List.length_set, Option.isSome_some, Nat.sub_self, Nat.reduceAdd, Nat.reduceSub, Nat.reduceLT, if_true, if_false, ite_true, ite_false, reduceIte, Bool.false_eq_true, decide_eq_true_eq, Bool.not_true, Bool.not_false, Nat.zero_add, true_and, and_true, false_and, and_false, and_self, Bool.xor_false, Bool.false_xor, Bool.true_xor, Bool.xor_true, get_new, set_new, get_new1, set_new1, le_0, le_1, le_2, le_3, le_4, le_5, le_6, le_7, le_8, cIn_one, cEq_int, cEq_str, cEq_bl]
    exact finish_same rfl
theorem pow18 (G : GS) : bPow (.int 10) (.int 18) G = .ok (.int 1000000000000000000) G := by
  simp only [bPow]
  rw [if_pos (by decide)]
  rfl
/-- the frame of _law_digits -/
def dgF (ns : List Int) (G : GS) (a b c d : Option D) : PEnv := [some (.scr ns), some (.int 0), some (.int 63), some (.ref G.length), a, b, c, d]
theorem dg_turn1 {ns : List Int} {G : GS} {ds : List Int} {k cell : Int} {t s : Option D} (h : ds.length < 100000) :
    ∃ (ds' : List Int) (c' : Int), L__law_digits_7 (dgF ns G (some (.int k)) (some (.int cell)) t s) (G ++ [.lst (ds.map D.int)]) = .nx (dgF ns G (some (.int k)) (some (.int c')) t s) (G ++ [.lst (ds'.map D.int)]) ∧ ds'.length ≤ ds.length + 1 := by
  have hm : ds.length < maxLine := by unfold maxLine; omega
  unfold dgF
  by_cases hc : 0 < cell
  · refine ⟨ds ++ [cell % 1000], cell / 1000, ?_, by simp⟩
    simp only [S__law_digits_1, S__law_digits_3, C__law_digits_4, S__law_digits_5, S__law_digits_4, C__law_digits_6, C__law_digits_8, S__law_digits_9, S__law_digits_10, S__law_digits_8, L__law_digits_7, S__law_digits_7, S__law_digits_12, S__law_digits_14, S__law_digits_15, L__law_digits_13, S__law_digits_13, S__law_digits_6, L__law_digits_2, S__law_digits_2, S__law_digits_16, hc, hm, modL _ 1000 (by omega), fdivL _ 1000 (by omega), List.map_append, runF, sSeq, sAsg, sSetI, sIf, sRet, sRetN, sExp, sBrk, sCont, sNil, sFor, sAug, sAsgG, asgR, gN, gT, gsCons, gsNil, iSeqL, iSeqT, iRg1, iRg2, eBin, eUn, eVar, eCst, eApp, eCall, eTup, eLst, eNew, eSl, oSome, oNone, aCons, aNil, dT, dAnd, dOr, dNot, eAnd, eOr, eNot, eIf, truth, eMt, isLst, isStr, seqOf, lstOf, setI, bIx, bAdd, bSub, bNeg, bIadd, cLt, cLe, cGt, cGe, cIsN, fLen, fMax, fMin, fAbs, fInt, fStr, fTuple, fList, mAppend, bSl, bindE_ok, bindE_exc, bindE_bad, bindS_ok, bindS_exc, bindS_bad, seqR_nx, seqR_ret, seqR_brk, seqR_cont, seqR_exc, seqR_bad, turnR_nx, turnR_ret, turnR_brk, turnR_cont, turnR_exc, turnR_bad, atI_0, atI_1, atI_lit, atI_natC, ixN_0, ixN_1, ixN_nat, List.map_cons, List.map_nil, List.length_cons, List.length_nil, List.length_map, List.cons_append, List.nil_append, List.replicate, List.getElem?_cons_zero, List.getElem?_cons_succ, List.set_cons_zero, List.set_cons_succ, List.length_set, Option.isSome_some, Nat.sub_self, Nat.reduceAdd, Nat.reduceSub, Nat.reduceLT, if_true, if_false, ite_true, ite_false, reduceIte, Bool.false_eq_true, decide_eq_true_eq, Bool.not_true, Bool.not_false, Nat.zero_add, true_and, and_true, false_and, and_false, and_self, Bool.xor_false, Bool.false_xor, Bool.true_xor, Bool.xor_true, get_new, set_new, get_new1, set_new1, le_0, le_1, le_2, le_3, le_4, le_5, le_6, le_7, le_8, cIn_one, cEq_int, cEq_str, cEq_bl]
  · refine ⟨ds, cell, ?_, by simp⟩
    simp only [S__law_digits_1, S__law_digits_3, C__law_digits_4, S__law_digits_5, S__law_digits_4, C__law_digits_6, C__law_digits_8, S__law_digits_9, S__law_digits_10, S__law_digits_8, L__law_digits_7, S__law_digits_7, S__law_digits_12, S__law_digits_14, S__law_digits_15, L__law_digits_13, S__law_digits_13, S__law_digits_6, L__law_digits_2, S__law_digits_2, S__law_digits_16, hc, decide_false, runF, sSeq, sAsg, sSetI, sIf, sRet, sRetN, sExp, sBrk, sCont, sNil, sFor, sAug, sAsgG, asgR, gN, gT, gsCons, gsNil, iSeqL, iSeqT, iRg1, iRg2, eBin, eUn, eVar, eCst, eApp, eCall, eTup, eLst, eNew, eSl, oSome, oNone, aCons, aNil, dT, dAnd, dOr, dNot, eAnd, eOr, eNot, eIf, truth, eMt, isLst, isStr, seqOf, lstOf, setI, bIx, bAdd, bSub, bNeg, bIadd, cLt, cLe, cGt, cGe, cIsN, fLen, fMax, fMin, fAbs, fInt, fStr, fTuple, fList, mAppend, bSl, bindE_ok, bindE_exc, bindE_bad, bindS_ok, bindS_exc, bindS_bad, seqR_nx, seqR_ret, seqR_brk, seqR_cont, seqR_exc, seqR_bad, turnR_nx, turnR_ret, turnR_brk, turnR_cont, turnR_exc, turnR_bad, atI_0, atI_1, atI_lit, atI_natC, ixN_0, ixN_1, ixN_nat, List.map_cons, List.map_nil, List.length_cons, List.length_nil, List.length_map, List.cons_append, List.nil_append, List.replicate, List.getElem?_cons_zero, List.getElem?_cons_succ, List.set_cons_zero, List.set_cons_succ, List.length_set, Option.isSome_some, Nat.sub_self, Nat.reduceAdd, Nat.reduceSub, Nat.reduceLT, if_true, if_false, ite_true, ite_false, reduceIte, Bool.false_eq_true, decide_eq_true_eq, Bool.not_true, Bool.not_false, Nat.zero_add, true_and, and_true, false_and, and_false, and_self, Bool.xor_false, Bool.false_xor, Bool.true_xor, Bool.xor_true, get_new, set_new, get_new1, set_new1, le_0, le_1, le_2, le_3, le_4, le_5, le_6, le_7, le_8, cIn_one, cEq_int, cEq_str, cEq_bl]
theorem dg_seed {ns : List Int} {G G' : GS} {k cell seed t : Int} :
    S__law_digits_14 (dgF ns G (some (.int k)) (some (.int cell)) (some (.int t)) (some (.int seed))) G' =
      .nx (dgF ns G (some (.int k)) (some (.int cell)) (some (.int t)) (some (.int ((seed * 16807 + 7 * t + 1) % 2147483647)))) G' := by
  unfold dgF S__law_digits_14
  simp only [modL _ 2147483647 (by omega), mulR _ 16807 (by omega), mulL 7 _ (by omega), runF, sSeq, sAsg, sSetI, sIf, sRet, sRetN, sExp, sBrk, sCont, sNil, sFor, sAug, sAsgG, asgR, gN, gT, gsCons, gsNil, iSeqL, iSeqT, iRg1, iRg2, eBin, eUn, eVar, eCst, eApp, eCall, eTup, eLst, eNew, eSl, oSome, oNone, aCons, aNil, dT, dAnd, dOr, dNot, eAnd, eOr, eNot, eIf, truth, eMt, isLst, isStr, seqOf, lstOf, setI, bIx, bAdd, bSub, bNeg, bIadd, cLt, cLe, cGt, cGe, cIsN, fLen, fMax, fMin, fAbs, fInt, fStr, fTuple, fList, mAppend, bSl, bindE_ok, bindE_exc, bindE_bad, bindS_ok, bindS_exc, bindS_bad, seqR_nx, seqR_ret, seqR_brk, seqR_cont, seqR_exc, seqR_bad, turnR_nx, turnR_ret, turnR_brk, turnR_cont, turnR_exc, turnR_bad, atI_0, atI_1, atI_lit, atI_natC, ixN_0, ixN_1, ixN_nat, List.map_cons, List.map_nil, List.length_cons, List.length_nil, List.length_map, List.cons_append, List.nil_append, List.replicate, List.getElem?_cons_zero, List.getElem?_cons_succ, List.set_cons_zero, List.set_cons_succ, List.length_set, Option.isSome_some, Nat.sub_self, Nat.reduceAdd, Nat.reduceSub, Nat.reduceLT, if_true, if_false, ite_true, ite_false, reduceIte, Bool.false_eq_true, decide_eq_true_eq, Bool.not_true, Bool.not_false, Nat.zero_add, true_and, and_true, false_and, and_false, and_self, Bool.xor_false, Bool.false_xor, Bool.true_xor, Bool.xor_true, get_new, set_new, get_new1, set_new1, le_0, le_1, le_2, le_3, le_4, le_5, le_6, le_7, le_8, cIn_one, cEq_int, cEq_str, cEq_bl]
theorem dg_app {ns : List Int} {G : GS} {k cell seed t : Int} {ds : List Int} (hm : ds.length < maxLine) :
    S__law_digits_15 (dgF ns G (some (.int k)) (some (.int cell)) (some (.int t)) (some (.int seed))) (G ++ [.lst (ds.map D.int)]) =
      .nx (dgF ns G (some (.int k)) (some (.int cell)) (some (.int t)) (some (.int seed))) (G ++ [.lst ((ds ++ [seed / 997 % 1000]).map D.int)]) := by
  unfold dgF S__law_digits_15
  simp only [hm, modL _ 1000 (by omega), fdivL _ 997 (by omega), List.map_append, runF, sSeq, sAsg, sSetI, sIf, sRet, sRetN, sExp, sBrk, sCont, sNil, sFor, sAug, sAsgG, asgR, gN, gT, gsCons, gsNil, iSeqL, iSeqT, iRg1, iRg2, eBin, eUn, eVar, eCst, eApp, eCall, eTup, eLst, eNew, eSl, oSome, oNone, aCons, aNil, dT, dAnd, dOr, dNot, eAnd, eOr, eNot, eIf, truth, eMt, isLst, isStr, seqOf, lstOf, setI, bIx, bAdd, bSub, bNeg, bIadd, cLt, cLe, cGt, cGe, cIsN, fLen, fMax, fMin, fAbs, fInt, fStr, fTuple, fList, mAppend, bSl, bindE_ok, bindE_exc, bindE_bad, bindS_ok, bindS_exc, bindS_bad, seqR_nx, seqR_ret, seqR_brk, seqR_cont, seqR_exc, seqR_bad, turnR_nx, turnR_ret, turnR_brk, turnR_cont, turnR_exc, turnR_bad, atI_0, atI_1, atI_lit, atI_natC, ixN_0, ixN_1, ixN_nat, List.map_cons, List.map_nil, List.length_cons, List.length_nil, List.length_map, List.cons_append, List.nil_append, List.replicate, List.getElem?_cons_zero, List.getElem?_cons_succ, List.set_cons_zero, List.set_cons_succ, List.length_set, Option.isSome_some, Nat.sub_self, Nat.reduceAdd, Nat.reduceSub, Nat.reduceLT, if_true, if_false, ite_true, ite_false, reduceIte, Bool.false_eq_true, decide_eq_true_eq, Bool.not_true, Bool.not_false, Nat.zero_add, true_and, and_true, false_and, and_false, and_self, Bool.xor_false, Bool.false_xor, Bool.true_xor, Bool.xor_true, get_new, set_new, get_new1, set_new1, le_0, le_1, le_2, le_3, le_4, le_5, le_6, le_7, le_8, cIn_one, cEq_int, cEq_str, cEq_bl]
theorem dg_turn2 {ns : List Int} {G : GS} {ds : List Int} {k cell seed t : Int} (h : ds.length < 100000) :
    ∃ (ds' : List Int) (s' : Int), L__law_digits_13 (dgF ns G (some (.int k)) (some (.int cell)) (some (.int t)) (some (.int seed))) (G ++ [.lst (ds.map D.int)]) = .nx (dgF ns G (some (.int k)) (some (.int cell)) (some (.int t)) (some (.int s'))) (G ++ [.lst (ds'.map D.int)]) ∧ ds'.length ≤ ds.length + 1 := by
  have hm : ds.length < maxLine := by unfold maxLine; omega
  exact ⟨ds ++ [(seed * 16807 + 7 * t + 1) % 2147483647 / 997 % 1000], (seed * 16807 + 7 * t + 1) % 2147483647, by unfold L__law_digits_13 sSeq; rw [dg_seed, seqR_nx, dg_app hm], by rw [List.length_append]; exact Nat.le_refl _⟩
theorem dg_test {ns : List Int} {G G' : GS} {k c : Int} {t s : Option D} : C__law_digits_6 (dgF ns G (some (.int k)) (some (.int c)) t s) G' = .ok (decide (1000000000000000000 ≤ c)) G' := by
  unfold dgF C__law_digits_6
  simp only [pow18, dT, eBin, eVar, eCst, cGe, truth, bindE_ok, List.getElem?_cons_zero, List.getElem?_cons_succ]
theorem dg_seed1 {ns : List Int} {G G' : GS} {k c : Int} {t s : Option D} : ∃ s', S__law_digits_12 (dgF ns G (some (.int k)) (some (.int c)) t s) G' = .nx (dgF ns G (some (.int k)) (some (.int c)) t (some (.int s'))) G' := by
  refine ⟨(c * 48271 + k * 69621 + 11) % 2147483647, ?_⟩
  unfold dgF S__law_digits_12
  simp only [modL _ 2147483647 (by omega), mulR _ 48271 (by omega), mulR _ 69621 (by omega), runF, sSeq, sAsg, sSetI, sIf, sRet, sRetN, sExp, sBrk, sCont, sNil, sFor, sAug, sAsgG, asgR, gN, gT, gsCons, gsNil, iSeqL, iSeqT, iRg1, iRg2, eBin, eUn, eVar, eCst, eApp, eCall, eTup, eLst, eNew, eSl, oSome, oNone, aCons, aNil, dT, dAnd, dOr, dNot, eAnd, eOr, eNot, eIf, truth, eMt, isLst, isStr, seqOf, lstOf, setI, bIx, bAdd, bSub, bNeg, bIadd, cLt, cLe, cGt, cGe, cIsN, fLen, fMax, fMin, fAbs, fInt, fStr, fTuple, fList, mAppend, bSl, bindE_ok, bindE_exc, bindE_bad, bindS_ok, bindS_exc, bindS_bad, seqR_nx, seqR_ret, seqR_brk, seqR_cont, seqR_exc, seqR_bad, turnR_nx, turnR_ret, turnR_brk, turnR_cont, turnR_exc, turnR_bad, atI_0, atI_1, atI_lit, atI_natC, ixN_0, ixN_1, ixN_nat, List.map_cons, List.map_nil, List.length_cons, List.length_nil, List.length_map, List.cons_append, List.nil_append, List.replicate, List.getElem?_cons_zero, List.getElem?_cons_succ, List.set_cons_zero, List.set_cons_succ, List.length_set, Option.isSome_some, Nat.sub_self, Nat.reduceAdd, Nat.reduceSub, Nat.reduceLT, if_true, if_false, ite_true, ite_false, reduceIte, Bool.false_eq_true, decide_eq_true_eq, Bool.not_true, Bool.not_false, Nat.zero_add, true_and, and_true, false_and, and_false, and_self, Bool.xor_false, Bool.false_xor, Bool.true_xor, Bool.xor_true, get_new, set_new, get_new1, set_new1, le_0, le_1, le_2, le_3, le_4, le_5, le_6, le_7, le_8, cIn_one, cEq_int, cEq_str, cEq_bl]
theorem dg_big {ns : List Int} {G : GS} {ds : List Int} {k c : Int} {t s : Option D} (h : ds.length < 90000) :
    ∃ (ds' : List Int) (b' t' s' : Option D), S__law_digits_6 (dgF ns G (some (.int k)) (some (.int c)) t s) (G ++ [.lst (ds.map D.int)]) = .nx (dgF ns G (some (.int k)) b' t' s') (G ++ [.lst (ds'.map D.int)]) ∧ ds'.length ≤ ds.length + 60 := by
  unfold S__law_digits_6 S__law_digits_7 S__law_digits_13 sIf
  rw [dg_test, bindS_ok]
  by_cases hg : (1000000000000000000 : Int) ≤ c
  · obtain ⟨σ', G', e, ds', c', t', s', rfl, rfl, hl⟩ := for_inv (g := gN 6) (body := L__law_digits_7) (fun i σ G' => ∃ (ds' : List Int) (c' : Int) (t' s' : Option D), σ = dgF ns G (some (.int k)) (some (.int c')) t' s' ∧ G' = G ++ [.lst (ds'.map D.int)] ∧ ds'.length ≤ ds.length + i)
      (rngD 0 (60 : Int).toNat) 0 _ _ ⟨ds, c, t, s, rfl, rfl, Nat.le_refl _⟩ (by
        rintro j d σ G1 hd ⟨ds1, c1, t1, s1, rfl, rfl, hl⟩
        obtain ⟨hj, rfl⟩ := rngD_get hd
        have hj : j < 60 := hj
        obtain ⟨ds2, c2, e2, h2⟩ := dg_turn1 (ns := ns) (G := G) (ds := ds1) (k := k) (cell := c1) (t := some (.int (0 + (j : Int)))) (s := s1) (by omega)
        exact ⟨_, _, _, rfl, .inl e2, ds2, c2, _, _, rfl, rfl, by omega⟩)
    rw [rngD_len] at hl
    have h60 : (60 : Int).toNat = 60 := rfl
    refine ⟨ds', some (.int c'), t', s', ?_, by omega⟩
    rw [decide_eq_true hg, if_pos rfl, ← e]
    simp only [sFor, iRg1, aCons, aNil, eCst, bindE_ok, bindS_ok, rng1_ok (n := 60) (by decide) (by decide)]
  · obtain ⟨s0, es⟩ := dg_seed1 (ns := ns) (G := G) (G' := G ++ [.lst (ds.map D.int)]) (k := k) (c := c) (t := t) (s := s)
    obtain ⟨σ', G', e, ds', t', s', rfl, rfl, hl⟩ := for_inv (g := gN 6) (body := L__law_digits_13) (fun i σ G' => ∃ (ds' : List Int) (t' : Option D) (s' : Int), σ = dgF ns G (some (.int k)) (some (.int c)) t' (some (.int s')) ∧ G' = G ++ [.lst (ds'.map D.int)] ∧ ds'.length ≤ ds.length + i)
      (rngD 0 (12 : Int).toNat) 0 _ _ ⟨ds, t, s0, rfl, rfl, Nat.le_refl _⟩ (by
        rintro j d σ G1 hd ⟨ds1, t1, s1, rfl, rfl, hl⟩
        obtain ⟨hj, rfl⟩ := rngD_get hd
        have hj : j < 12 := hj
        obtain ⟨ds2, s2, e2, h2⟩ := dg_turn2 (ns := ns) (G := G) (ds := ds1) (k := k) (cell := c) (t := 0 + (j : Int)) (seed := s1) (by omega)
        exact ⟨_, _, _, rfl, .inl e2, ds2, _, _, rfl, rfl, by omega⟩)
    rw [rngD_len] at hl
    have h12 : (12 : Int).toNat = 12 := rfl
    refine ⟨ds', some (.int c), t', some (.int s'), ?_, by omega⟩
    rw [decide_eq_false hg, if_neg Bool.false_ne_true, ← e]
    unfold sSeq
    rw [es, seqR_nx]
    simp only [sFor, iRg1, aCons, aNil, eCst, bindE_ok, bindS_ok, rng1_ok (n := 12) (by decide) (by decide)]
theorem dg_turn3 {ns : List Int} {G : GS} {ds : List Int} {k : Nat} {b t s : Option D} (h : ds.length < 90000) :
    ∃ (ds' : List Int) (b' t' s' : Option D), L__law_digits_2 (dgF ns G (some (.int k)) b t s) (G ++ [.lst (ds.map D.int)]) = .nx (dgF ns G (some (.int k)) b' t' s') (G ++ [.lst (ds'.map D.int)]) ∧ ds'.length ≤ ds.length + 60 := by
  obtain ⟨cell, hc⟩ := cell_eq (ns := ns) (k := k) (G := G ++ [.lst (ds.map D.int)])
  have e1 : S__law_digits_3 (dgF ns G (some (.int k)) b t s) (G ++ [.lst (ds.map D.int)]) = .nx (dgF ns G (some (.int k)) (some (.int cell)) t s) (G ++ [.lst (ds.map D.int)]) := by
    unfold dgF
    simp only [S__law_digits_3, hc, runF, sSeq, sAsg, sSetI, sIf, sRet, sRetN, sExp, sBrk, sCont, sNil, sFor, sAug, sAsgG, asgR, gN, gT, gsCons, gsNil, iSeqL, iSeqT, iRg1, iRg2, eBin, eUn, eVar, eCst, eApp, eCall, eTup, eLst, eNew, eSl, oSome, oNone, aCons, aNil, dT, dAnd, dOr, dNot, eAnd, eOr, eNot, eIf, truth, eMt, isLst, isStr, seqOf, lstOf, setI, bIx, bAdd, bSub, bNeg, bIadd, cLt, cLe, cGt, cGe, cIsN, fLen, fMax, fMin, fAbs, fInt, fStr, fTuple, fList, mAppend, bSl, bindE_ok, bindE_exc, bindE_bad, bindS_ok, bindS_exc, bindS_bad, seqR_nx, seqR_ret, seqR_brk, seqR_cont, seqR_exc, seqR_bad, turnR_nx, turnR_ret, turnR_brk, turnR_cont, turnR_exc, turnR_bad, atI_0, atI_1, atI_lit, atI_natC, ixN_0, ixN_1, ixN_nat, List.map_cons, List.map_nil, List.length_cons, List.length_nil, List.length_map, List.cons_append, List.nil_append, List.replicate, List.getElem?_cons_zero, List.getElem?_cons_succ, List.set_cons_zero, List.set_cons_succ, List.length_set, Option.isSome_some, Nat.sub_self, Nat.reduceAdd, Nat.reduceSub, Nat.reduceLT, if_true, if_false, ite_true, ite_false, reduceIte, Bool.false_eq_true, decide_eq_true_eq, Bool.not_true, Bool.not_false, Nat.zero_add, true_and, and_true, false_and, and_false, and_self, Bool.xor_false, Bool.false_xor, Bool.true_xor, Bool.xor_true, get_new, set_new, get_new1, set_new1, le_0, le_1, le_2, le_3, le_4, le_5, le_6, le_7, le_8, cIn_one, cEq_int, cEq_str, cEq_bl]
  have e2 : ∃ c, S__law_digits_4 (dgF ns G (some (.int k)) (some (.int cell)) t s) (G ++ [.lst (ds.map D.int)]) = .nx (dgF ns G (some (.int k)) (some (.int c)) t s) (G ++ [.lst (ds.map D.int)]) := by
    unfold dgF
    by_cases hn : cell < 0
    · refine ⟨1 - 2 * cell, ?_⟩
      simp only [S__law_digits_4, C__law_digits_4, S__law_digits_5, hn, mulL 2 _ (by omega), decide_true, runF, sSeq, sAsg, sSetI, sIf, sRet, sRetN, sExp, sBrk, sCont, sNil, sFor, sAug, sAsgG, asgR, gN, gT, gsCons, gsNil, iSeqL, iSeqT, iRg1, iRg2, eBin, eUn, eVar, eCst, eApp, eCall, eTup, eLst, eNew, eSl, oSome, oNone, aCons, aNil, dT, dAnd, dOr, dNot, eAnd, eOr, eNot, eIf, truth, eMt, isLst, isStr, seqOf, lstOf, setI, bIx, bAdd, bSub, bNeg, bIadd, cLt, cLe, cGt, cGe, cIsN, fLen, fMax, fMin, fAbs, fInt, fStr, fTuple, fList, mAppend, bSl, bindE_ok, bindE_exc, bindE_bad, bindS_ok, bindS_exc, bindS_bad, seqR_nx, seqR_ret, seqR_brk, seqR_cont, seqR_exc, seqR_bad, turnR_nx, turnR_ret, turnR_brk, turnR_cont, turnR_exc, turnR_bad, atI_0, atI_1, atI_lit, atI_natC, ixN_0, ixN_1, ixN_nat, List.map_cons, List.map_nil, List.length_cons, List.length_nil, List.length_map, List.cons_append, List.nil_append, List.replicate, List.getElem?_cons_zero, List.getElem?_cons_succ, List.set_cons_zero, List.set_cons_succ, List.length_set, Option.isSome_some, Nat.sub_self, Nat.reduceAdd, Nat.reduceSub, Nat.reduceLT, if_true, if_false, ite_true, ite_false, reduceIte, Bool.false_eq_true, decide_eq_true_eq, Bool.not_true, Bool.not_false, Nat.zero_add, true_and, and_true, false_and, and_false, and_self, Bool.xor_false, Bool.false_xor, Bool.true_xor, Bool.xor_true, get_new, set_new, get_new1, set_new1, le_0, le_1, le_2, le_3, le_4, le_5, le_6, le_7, le_8, cIn_one, cEq_int, cEq_str, cEq_bl]
    · refine ⟨cell, ?_⟩
      simp only [S__law_digits_4, C__law_digits_4, hn, decide_false, runF, sSeq, sAsg, sSetI, sIf, sRet, sRetN, sExp, sBrk, sCont, sNil, sFor, sAug, sAsgG, asgR, gN, gT, gsCons, gsNil, iSeqL, iSeqT, iRg1, iRg2, eBin, eUn, eVar, eCst, eApp, eCall, eTup, eLst, eNew, eSl, oSome, oNone, aCons, aNil, dT, dAnd, dOr, dNot, eAnd, eOr, eNot, eIf, truth, eMt, isLst, isStr, seqOf, lstOf, setI, bIx, bAdd, bSub, bNeg, bIadd, cLt, cLe, cGt, cGe, cIsN, fLen, fMax, fMin, fAbs, fInt, fStr, fTuple, fList, mAppend, bSl, bindE_ok, bindE_exc, bindE_bad, bindS_ok, bindS_exc, bindS_bad, seqR_nx, seqR_ret, seqR_brk, seqR_cont, seqR_exc, seqR_bad, turnR_nx, turnR_ret, turnR_brk, turnR_cont, turnR_exc, turnR_bad, atI_0, atI_1, atI_lit, atI_natC, ixN_0, ixN_1, ixN_nat, List.map_cons, List.map_nil, List.length_cons, List.length_nil, List.length_map, List.cons_append, List.nil_append, List.replicate, List.getElem?_cons_zero, List.getElem?_cons_succ, List.set_cons_zero, List.set_cons_succ, List.length_set, Option.isSome_some, Nat.sub_self, Nat.reduceAdd, Nat.reduceSub, Nat.reduceLT, if_true, if_false, ite_true, ite_false, reduceIte, Bool.false_eq_true, decide_eq_true_eq, Bool.not_true, Bool.not_false, Nat.zero_add, true_and, and_true, false_and, and_false, and_self, Bool.xor_false, Bool.false_xor, Bool.true_xor, Bool.xor_true, get_new, set_new, get_new1, set_new1, le_0, le_1, le_2, le_3, le_4, le_5, le_6, le_7, le_8, cIn_one, cEq_int, cEq_str, cEq_bl]
  obtain ⟨c, e2⟩ := e2
  obtain ⟨ds', b', t', s', e3, hl⟩ := dg_big (ns := ns) (G := G) (ds := ds) (k := k) (c := c) (t := t) (s := s) h
  refine ⟨ds', b', t', s', ?_, hl⟩
  unfold L__law_digits_2 sSeq
  rw [e1, seqR_nx, e2, seqR_nx, e3]
theorem digits_eq {ns : List Int} {G : GS} : ∃ ds : List Int, F__law_digits [.scr ns, .int 0, .int 63] G = .ok (.lst (ds.map D.int)) G ∧ ds.length ≤ 3780 := by
  obtain ⟨σ', G', e, ds, a, b, c, d, rfl, rfl, hl⟩ := for_inv (g := gN 4) (body := L__law_digits_2) (fun i σ G' => ∃ (ds : List Int) (a b c d : Option D), σ = dgF ns G a b c d ∧ G' = G ++ [.lst (ds.map D.int)] ∧ ds.length ≤ 60 * i)
    (rngD 0 (63 - 0 : Int).toNat) 0 (dgF ns G none none none none) (G ++ [.lst ([].map D.int)]) ⟨[], _, _, _, _, rfl, rfl, Nat.zero_le _⟩ (by
      rintro j d σ G1 hd ⟨ds1, a1, b1, c1, d1, rfl, rfl, hl⟩
      obtain ⟨hj, rfl⟩ := rngD_get hd
      obtain ⟨ds2, b2, c2, d2, e2, h2⟩ := dg_turn3 (ns := ns) (G := G) (ds := ds1) (k := j) (b := b1) (t := c1) (s := d1) (by simp at hj; omega)
      exact ⟨dgF ns G (some (.int (0 + (j : Int)))) b1 c1 d1, _, _, rfl, .inl (by rw [Int.zero_add]; exact e2), ds2, _, _, _, _, rfl, rfl, by omega⟩)
  rw [rngD_len] at hl
  refine ⟨ds, ?_, by simpa using hl⟩
  unfold dgF at e
  simp only [List.map_nil] at e
  simp only [S__law_digits_1, S__law_digits_3, C__law_digits_4, S__law_digits_5, S__law_digits_4, C__law_digits_6, C__law_digits_8, S__law_digits_9, S__law_digits_10, S__law_digits_8, S__law_digits_7, S__law_digits_12, S__law_digits_14, S__law_digits_15, S__law_digits_13, S__law_digits_6, S__law_digits_2, S__law_digits_16, B__law_digits, F__law_digits, rng2_ok (m := 0) (n := 63) (by decide) (by decide) (by decide) (by decide), e, runF, sSeq, sAsg, sSetI, sIf, sRet, sRetN, sExp, sBrk, sCont, sNil, sFor, sAug, sAsgG, asgR, gN, gT, gsCons, gsNil, iSeqL, iSeqT, iRg1, iRg2, eBin, eUn, eVar, eCst, eApp, eCall, eTup, eLst, eNew, eSl, oSome, oNone, aCons, aNil, dT, dAnd, dOr, dNot, eAnd, eOr, eNot, eIf, truth, eMt, isLst, isStr, seqOf, lstOf, setI, bIx, bAdd, bSub, bNeg, bIadd, cLt, cLe, cGt, cGe, cIsN, fLen, fMax, fMin, fAbs, fInt, fStr, fTuple, fList, mAppend, bSl, bindE_ok, bindE_exc, bindE_bad, bindS_ok, bindS_exc, bindS_bad, seqR_nx, seqR_ret, seqR_brk, seqR_cont, seqR_exc, seqR_bad, turnR_nx, turnR_ret, turnR_brk, turnR_cont, turnR_exc, turnR_bad, atI_0, atI_1, atI_lit, atI_natC, ixN_0, ixN_1, ixN_nat, List.map_cons, List.map_nil, List.length_cons, List.length_nil, List.length_map, List.cons_append, List.nil_append, List.replicate, List.getElem?_cons_zero, List.getElem?_cons_succ, List.set_cons_zero, List.set_cons_succ, List.length_set, Option.isSome_some, Nat.sub_self, Nat.reduceAdd, Nat.reduceSub, Nat.reduceLT, if_true, if_false, ite_true, ite_false, reduceIte, Bool.false_eq_true, decide_eq_true_eq, Bool.not_true, Bool.not_false, Nat.zero_add, true_and, and_true, false_and, and_false, and_self, Bool.xor_false, Bool.false_xor, Bool.true_xor, Bool.xor_true, get_new, set_new, get_new1, set_new1, le_0, le_1, le_2, le_3, le_4, le_5, le_6, le_7, le_8, cIn_one, cEq_int, cEq_str, cEq_bl]
  exact finish_ref0 (nrDs_ints ds)
/-! ## _law_run -/
theorem run_eq {ds : List Int} {a : Nat} {n : Nat} {cs : List Nat} {G : GS} (hn : n ≤ 1000) (hc : cs ≠ []) (hc2 : cs.length ≤ 1000) :
    ∃ t : List Nat, F__law_run [.ref 0, .int n, .str cs] (box ds a :: G) = .ok (.str t) (box ds (a + n) :: G) ∧ t.length = n ∧ ∀ c ∈ t, c ∈ cs := by
  have hl0 : 0 < cs.length := List.length_pos_iff.mpr hc
  have hcm : cs.length ≤ maxLine := by unfold maxLine; omega
  obtain ⟨σ', G', e, t, d, rfl, rfl, h1, h2⟩ := for_rng (g := gN 4) (body := L__law_run_2) (n := n) (fun i σ G' => ∃ (t : List Nat) (d : Option D), σ = [some (.ref 0), some (.int n), some (.str cs), some (.str t), d] ∧ G' = box ds (a + i) :: G ∧ t.length = i ∧ ∀ c ∈ t, c ∈ cs)
    (σ := [some (.ref 0), some (.int n), some (.str cs), some (.str (lit "")), none]) (G := box ds a :: G) ⟨[], none, rfl, rfl, rfl, fun c h => by simp at h⟩ (by
      rintro j σ G1 hj ⟨t, d0, rfl, rfl, h1, h2⟩
      have rg := draw_range ds (a + j) (m := (cs.length : Int)) (by omega)
      have hx : (drawV ds (a + j) cs.length).toNat < cs.length := by omega
      have ha : atI cs (drawV ds (a + j) cs.length) = some cs[(drawV ds (a + j) cs.length).toNat] := by rw [atI_toNat _ rg.1, List.getElem?_eq_getElem hx]
      have hlen : t.length + 1 ≤ maxLine := by unfold maxLine; omega
      refine ⟨_, _, _, rfl, .inl ?_, t ++ [cs[(drawV ds (a + j) cs.length).toNat]], some (.int (j : Int)), rfl, rfl, by simp [h1], fun c hc => ?_⟩
      · simp only [S__law_run_1, S__law_run_3, L__law_run_2, S__law_run_2, S__law_run_4, hcm, draw_eq (ds := ds) (m := (cs.length : Int)) (by omega), ha, hlen, runF, sSeq, sAsg, sSetI, sIf, sRet, sRetN, sExp, sBrk, sCont, sNil, sFor, sAug, sAsgG, asgR, gN, gT, gsCons, gsNil, iSeqL, iSeqT, iRg1, iRg2, eBin, eUn, eVar, eCst, eApp, eCall, eTup, eLst, eNew, eSl, oSome, oNone, aCons, aNil, dT, dAnd, dOr, dNot, eAnd, eOr, eNot, eIf, truth, eMt, isLst, isStr, seqOf, lstOf, setI, bIx, bAdd, bSub, bNeg, bIadd, cLt, cLe, cGt, cGe, cIsN, fLen, fMax, fMin, fAbs, fInt, fStr, fTuple, fList, mAppend, bSl, bindE_ok, bindE_exc, bindE_bad, bindS_ok, bindS_exc, bindS_bad, seqR_nx, seqR_ret, seqR_brk, seqR_cont, seqR_exc, seqR_bad, turnR_nx, turnR_ret, turnR_brk, turnR_cont, turnR_exc, turnR_bad, atI_0, atI_1, atI_lit, atI_natC, ixN_0, ixN_1, ixN_nat, List.map_cons, List.map_nil, List.length_cons, List.length_nil, List.length_map, List.cons_append, List.nil_append, List.replicate, List.getElem?_cons_zero, List.getElem?_cons_succ, List.set_cons_zero, List.set_cons_succ, List.length_set, Option.isSome_some, Nat.sub_self, Nat.reduceAdd, Nat.reduceSub, Nat.reduceLT, if_true, if_false, ite_true, ite_false, reduceIte, Bool.false_eq_true, decide_eq_true_eq, Bool.not_true, Bool.not_false, Nat.zero_add, true_and, and_true, false_and, and_false, and_self, Bool.xor_false, Bool.false_xor, Bool.true_xor, Bool.xor_true, get_new, set_new, get_new1, set_new1, le_0, le_1, le_2, le_3, le_4, le_5, le_6, le_7, le_8, cIn_one, cEq_int, cEq_str, cEq_bl]
        rfl
      · rcases List.mem_append.mp hc with hc | hc
        · exact h2 c hc
        · rw [List.mem_singleton.mp hc]; exact List.getElem_mem _)
  refine ⟨t, ?_, h1, h2⟩
  simp only [S__law_run_1, S__law_run_3, S__law_run_2, S__law_run_4, B__law_run, F__law_run, rng1_nat (n := n) (by omega), e, runF, sSeq, sAsg, sSetI, sIf, sRet, sRetN, sExp, sBrk, sCont, sNil, sFor, sAug, sAsgG, asgR, gN, gT, gsCons, gsNil, iSeqL, iSeqT, iRg1, iRg2, eBin, eUn, eVar, eCst, eApp, eCall, eTup, eLst, eNew, eSl, oSome, oNone, aCons, aNil, dT, dAnd, dOr, dNot, eAnd, eOr, eNot, eIf, truth, eMt, isLst, isStr, seqOf, lstOf, setI, bIx, bAdd, bSub, bNeg, bIadd, cLt, cLe, cGt, cGe, cIsN, fLen, fMax, fMin, fAbs, fInt, fStr, fTuple, fList, mAppend, bSl, bindE_ok, bindE_exc, bindE_bad, bindS_ok, bindS_exc, bindS_bad, seqR_nx, seqR_ret, seqR_brk, seqR_cont, seqR_exc, seqR_bad, turnR_nx, turnR_ret, turnR_brk, turnR_cont, turnR_exc, turnR_bad, atI_0, atI_1, atI_lit, atI_natC, ixN_0, ixN_1, ixN_nat, List.map_cons, List.map_nil, List.length_cons, List.length_nil, List.length_map, List.cons_append, List.nil_append, List.replicate, List.getElem?_cons_zero, List.getElem?_cons_succ, List.set_cons_zero, List.set_cons_succ, List.length_set, Option.isSome_some, Nat.sub_self, Nat.reduceAdd, Nat.reduceSub, Nat.reduceLT, if_true, if_false, ite_true, ite_false, reduceIte, Bool.false_eq_true, decide_eq_true_eq, Bool.not_true, Bool.not_false, Nat.zero_add, true_and, and_true, false_and, and_false, and_self, Bool.xor_false, Bool.false_xor, Bool.true_xor, Bool.xor_true, get_new, set_new, get_new1, set_new1, le_0, le_1, le_2, le_3, le_4, le_5, le_6, le_7, le_8, cIn_one, cEq_int, cEq_str, cEq_bl]
  exact finish_same rfl
/-! ## _law_same -/
theorem same_seq {k : Nat} {a d : D} {G : GS} {es fs : List D} {t : String} (ha : seqOf G a = some es) (hd : seqOf G d = some fs) (hl : es.length = fs.length) (ta : tyD G a = some t) (td : tyD G d = some t) (ht : t = "list" ∨ t = "tuple") (hb : fs.length < 1000000)
    (ih : ∀ (j : Nat) x y, es[j]? = some x → fs[j]? = some y → F__law_same k [x, y] G = .ok (.bl true) G) : F__law_same (k + 1) [a, d] G = .ok (.bl true) G := by
  obtain ⟨σ', G', e, dd, rfl, rfl⟩ := for_rng (g := gN 2) (body := L__law_same_6 (F__law_same k)) (n := fs.length) (fun i σ G' => ∃ (dd : Option D), σ = [some a, some d, dd] ∧ G' = G)
    (σ := [some a, some d, none]) (G := G) ⟨none, rfl, rfl⟩ (by
      rintro j σ G1 hj ⟨dd, rfl, rfl⟩
      have hx : es[j]? = some es[j] := List.getElem?_eq_getElem (by omega)
      have hy : fs[j]? = some fs[j] := List.getElem?_eq_getElem hj
      refine ⟨_, _, _, rfl, .inl ?_, some (.int (j : Int)), rfl, rfl⟩
      simp only [C__law_same_1, C__law_same_2, S__law_same_3, S__law_same_2, C__law_same_4, S__law_same_5, S__law_same_4, C__law_same_7, S__law_same_8, S__law_same_7, L__law_same_6, S__law_same_6, S__law_same_9, S__law_same_1, C__law_same_10, S__law_same_11, S__law_same_10, C__law_same_12, S__law_same_13, S__law_same_12, C__law_same_14, S__law_same_15, S__law_same_14, S__law_same_16, sIf, dNot, dT, eCall, aCons, aNil, eBin, eVar, truth, sNil, bindE_ok, bindS_ok, List.getElem?_cons_zero, List.getElem?_cons_succ, bIx_seq ha hx, bIx_seq hd hy, ih j _ _ hx hy, Bool.not_true, Bool.false_eq_true, if_false, List.set_cons_zero, List.set_cons_succ])
  have hlen : (decide ((es.length : Int) = (fs.length : Int))) = true := by simp [hl]
  simp only [C__law_same_1, C__law_same_2, S__law_same_3, S__law_same_2, C__law_same_4, S__law_same_5, S__law_same_4, C__law_same_7, S__law_same_8, S__law_same_7, S__law_same_6, S__law_same_9, S__law_same_1, C__law_same_10, S__law_same_11, S__law_same_10, C__law_same_12, S__law_same_13, S__law_same_12, C__law_same_14, S__law_same_15, S__law_same_14, S__law_same_16, B__law_same, F__law_same, runF, List.map_cons, List.map_nil, List.length_cons, List.length_nil, List.replicate, List.cons_append, List.nil_append, Nat.reduceAdd, Nat.reduceSub, Nat.zero_add]
  rcases ht with rfl | rfl
  · simp only [isi_of td kit_ll, isi_of ta kit_ll, isi_of ta kit_lt, isi_of td kit_lt, fLen_seq ha, fLen_seq hd, hlen, rng1_nat (n := fs.length) (by omega), e,
      sSeq, sIf, dOr, dT, eUn, eVar, eBin, eApp, aCons, aNil, sFor, iRg1, sRet, sNil, truth, eCst, cEq_bl, cEq_int, bindE_ok, bindS_ok, seqR_nx, seqR_ret, List.getElem?_cons_zero, List.getElem?_cons_succ, if_true, if_false, Bool.false_eq_true, decide_true, Bool.xor_true, Bool.not_true, reduceIte]
    exact finish_same rfl
  · simp only [isi_of td kit_tl, isi_of ta kit_tl, isi_of ta kit_tt, isi_of td kit_tt, fLen_seq ha, fLen_seq hd, hlen, rng1_nat (n := fs.length) (by omega), e,
      sSeq, sIf, dOr, dT, eUn, eVar, eBin, eApp, aCons, aNil, sFor, iRg1, sRet, sNil, truth, eCst, cEq_bl, cEq_int, bindE_ok, bindS_ok, seqR_nx, seqR_ret, List.getElem?_cons_zero, List.getElem?_cons_succ, if_true, if_false, Bool.false_eq_true, decide_true, Bool.xor_true, Bool.not_true, reduceIte]
    exact finish_same rfl
theorem same_non {k : Nat} {G : GS} : F__law_same (k + 1) [.non, .non] G = .ok (.bl true) G := by
  simp only [C__law_same_1, C__law_same_2, S__law_same_3, S__law_same_2, C__law_same_4, S__law_same_5, S__law_same_4, C__law_same_7, S__law_same_8, S__law_same_7, S__law_same_6, S__law_same_9, S__law_same_1, C__law_same_10, S__law_same_11, S__law_same_10, C__law_same_12, S__law_same_13, S__law_same_12, C__law_same_14, S__law_same_15, S__law_same_14, S__law_same_16, B__law_same, F__law_same, isi_of (show tyD G .non = some "NoneType" from rfl) kit_nl, isi_of (show tyD G .non = some "NoneType" from rfl) kit_nt, runF, sSeq, sAsg, sSetI, sIf, sRet, sRetN, sExp, sBrk, sCont, sNil, sFor, sAug, sAsgG, asgR, gN, gT, gsCons, gsNil, iSeqL, iSeqT, iRg1, iRg2, eBin, eUn, eVar, eCst, eApp, eCall, eTup, eLst, eNew, eSl, oSome, oNone, aCons, aNil, dT, dAnd, dOr, dNot, eAnd, eOr, eNot, eIf, truth, eMt, isLst, isStr, seqOf, lstOf, setI, bIx, bAdd, bSub, bNeg, bIadd, cLt, cLe, cGt, cGe, cIsN, fLen, fMax, fMin, fAbs, fInt, fStr, fTuple, fList, mAppend, bSl, bindE_ok, bindE_exc, bindE_bad, bindS_ok, bindS_exc, bindS_bad, seqR_nx, seqR_ret, seqR_brk, seqR_cont, seqR_exc, seqR_bad, turnR_nx, turnR_ret, turnR_brk, turnR_cont, turnR_exc, turnR_bad, atI_0, atI_1, atI_lit, atI_natC, ixN_0, ixN_1, ixN_nat, List.map_cons, List.map_nil, List.length_cons, List.length_nil, List.length_map, List.cons_append, List.nil_append, List.replicate, List.getElem?_cons_zero, List.getElem?_cons_succ, List.set_cons_zero, List.set_cons_succ, List.length_set, Option.isSome_some, Nat.sub_self, Nat.reduceAdd, Nat.reduceSub, Nat.reduceLT, if_true, if_false, ite_true, ite_false, reduceIte, Bool.false_eq_true, decide_eq_true_eq, Bool.not_true, Bool.not_false, Nat.zero_add, true_and, and_true, false_and, and_false, and_self, Bool.xor_false, Bool.false_xor, Bool.true_xor, Bool.xor_true, get_new, set_new, get_new1, set_new1, le_0, le_1, le_2, le_3, le_4, le_5, le_6, le_7, le_8, cIn_one, cEq_int, cEq_str, cEq_bl]
  exact finish_same rfl
theorem same_bl {k : Nat} {b : Bool} {G : GS} : F__law_same (k + 1) [.bl b, .bl b] G = .ok (.bl true) G := by
  have t := show tyD G (.bl b) = some "bool" from rfl
  simp only [C__law_same_1, C__law_same_2, S__law_same_3, S__law_same_2, C__law_same_4, S__law_same_5, S__law_same_4, C__law_same_7, S__law_same_8, S__law_same_7, S__law_same_6, S__law_same_9, S__law_same_1, C__law_same_10, S__law_same_11, S__law_same_10, C__law_same_12, S__law_same_13, S__law_same_12, C__law_same_14, S__law_same_15, S__law_same_14, S__law_same_16, B__law_same, F__law_same, isi_of t kit_bl, isi_of t kit_bt, isi_of t kit_bb, decide_true, runF, sSeq, sAsg, sSetI, sIf, sRet, sRetN, sExp, sBrk, sCont, sNil, sFor, sAug, sAsgG, asgR, gN, gT, gsCons, gsNil, iSeqL, iSeqT, iRg1, iRg2, eBin, eUn, eVar, eCst, eApp, eCall, eTup, eLst, eNew, eSl, oSome, oNone, aCons, aNil, dT, dAnd, dOr, dNot, eAnd, eOr, eNot, eIf, truth, eMt, isLst, isStr, seqOf, lstOf, setI, bIx, bAdd, bSub, bNeg, bIadd, cLt, cLe, cGt, cGe, cIsN, fLen, fMax, fMin, fAbs, fInt, fStr, fTuple, fList, mAppend, bSl, bindE_ok, bindE_exc, bindE_bad, bindS_ok, bindS_exc, bindS_bad, seqR_nx, seqR_ret, seqR_brk, seqR_cont, seqR_exc, seqR_bad, turnR_nx, turnR_ret, turnR_brk, turnR_cont, turnR_exc, turnR_bad, atI_0, atI_1, atI_lit, atI_natC, ixN_0, ixN_1, ixN_nat, List.map_cons, List.map_nil, List.length_cons, List.length_nil, List.length_map, List.cons_append, List.nil_append, List.replicate, List.getElem?_cons_zero, List.getElem?_cons_succ, List.set_cons_zero, List.set_cons_succ, List.length_set, Option.isSome_some, Nat.sub_self, Nat.reduceAdd, Nat.reduceSub, Nat.reduceLT, if_true, if_false, ite_true, ite_false, reduceIte, Bool.false_eq_true, decide_eq_true_eq, Bool.not_true, Bool.not_false, Nat.zero_add, true_and, and_true, false_and, and_false, and_self, Bool.xor_false, Bool.false_xor, Bool.true_xor, Bool.xor_true, get_new, set_new, get_new1, set_new1, le_0, le_1, le_2, le_3, le_4, le_5, le_6, le_7, le_8, cIn_one, cEq_int, cEq_str, cEq_bl]
  exact finish_same rfl
theorem same_str {k : Nat} {s : List Nat} {G : GS} : F__law_same (k + 1) [.str s, .str s] G = .ok (.bl true) G := by
  have t := show tyD G (.str s) = some "str" from rfl
  simp only [C__law_same_1, C__law_same_2, S__law_same_3, S__law_same_2, C__law_same_4, S__law_same_5, S__law_same_4, C__law_same_7, S__law_same_8, S__law_same_7, S__law_same_6, S__law_same_9, S__law_same_1, C__law_same_10, S__law_same_11, S__law_same_10, C__law_same_12, S__law_same_13, S__law_same_12, C__law_same_14, S__law_same_15, S__law_same_14, S__law_same_16, B__law_same, F__law_same, isi_of t kit_sl, isi_of t kit_st, isi_of t kit_sb, isi_of t kit_ss, decide_true, runF, sSeq, sAsg, sSetI, sIf, sRet, sRetN, sExp, sBrk, sCont, sNil, sFor, sAug, sAsgG, asgR, gN, gT, gsCons, gsNil, iSeqL, iSeqT, iRg1, iRg2, eBin, eUn, eVar, eCst, eApp, eCall, eTup, eLst, eNew, eSl, oSome, oNone, aCons, aNil, dT, dAnd, dOr, dNot, eAnd, eOr, eNot, eIf, truth, eMt, isLst, isStr, seqOf, lstOf, setI, bIx, bAdd, bSub, bNeg, bIadd, cLt, cLe, cGt, cGe, cIsN, fLen, fMax, fMin, fAbs, fInt, fStr, fTuple, fList, mAppend, bSl, bindE_ok, bindE_exc, bindE_bad, bindS_ok, bindS_exc, bindS_bad, seqR_nx, seqR_ret, seqR_brk, seqR_cont, seqR_exc, seqR_bad, turnR_nx, turnR_ret, turnR_brk, turnR_cont, turnR_exc, turnR_bad, atI_0, atI_1, atI_lit, atI_natC, ixN_0, ixN_1, ixN_nat, List.map_cons, List.map_nil, List.length_cons, List.length_nil, List.length_map, List.cons_append, List.nil_append, List.replicate, List.getElem?_cons_zero, List.getElem?_cons_succ, List.set_cons_zero, List.set_cons_succ, List.length_set, Option.isSome_some, Nat.sub_self, Nat.reduceAdd, Nat.reduceSub, Nat.reduceLT, if_true, if_false, ite_true, ite_false, reduceIte, Bool.false_eq_true, decide_eq_true_eq, Bool.not_true, Bool.not_false, Nat.zero_add, true_and, and_true, false_and, and_false, and_self, Bool.xor_false, Bool.false_xor, Bool.true_xor, Bool.xor_true, get_new, set_new, get_new1, set_new1, le_0, le_1, le_2, le_3, le_4, le_5, le_6, le_7, le_8, cIn_one, cEq_int, cEq_str, cEq_bl]
  exact finish_same rfl
theorem same_int {k : Nat} {i : Int} {G : GS} : F__law_same (k + 1) [.int i, .int i] G = .ok (.bl true) G := by
  have t := show tyD G (.int i) = some "int" from rfl
  simp only [C__law_same_1, C__law_same_2, S__law_same_3, S__law_same_2, C__law_same_4, S__law_same_5, S__law_same_4, C__law_same_7, S__law_same_8, S__law_same_7, S__law_same_6, S__law_same_9, S__law_same_1, C__law_same_10, S__law_same_11, S__law_same_10, C__law_same_12, S__law_same_13, S__law_same_12, C__law_same_14, S__law_same_15, S__law_same_14, S__law_same_16, B__law_same, F__law_same, isi_of t kit_il, isi_of t kit_it, isi_of t kit_ib, isi_of t kit_is, isi_of t kit_ii, decide_true, runF, sSeq, sAsg, sSetI, sIf, sRet, sRetN, sExp, sBrk, sCont, sNil, sFor, sAug, sAsgG, asgR, gN, gT, gsCons, gsNil, iSeqL, iSeqT, iRg1, iRg2, eBin, eUn, eVar, eCst, eApp, eCall, eTup, eLst, eNew, eSl, oSome, oNone, aCons, aNil, dT, dAnd, dOr, dNot, eAnd, eOr, eNot, eIf, truth, eMt, isLst, isStr, seqOf, lstOf, setI, bIx, bAdd, bSub, bNeg, bIadd, cLt, cLe, cGt, cGe, cIsN, fLen, fMax, fMin, fAbs, fInt, fStr, fTuple, fList, mAppend, bSl, bindE_ok, bindE_exc, bindE_bad, bindS_ok, bindS_exc, bindS_bad, seqR_nx, seqR_ret, seqR_brk, seqR_cont, seqR_exc, seqR_bad, turnR_nx, turnR_ret, turnR_brk, turnR_cont, turnR_exc, turnR_bad, atI_0, atI_1, atI_lit, atI_natC, ixN_0, ixN_1, ixN_nat, List.map_cons, List.map_nil, List.length_cons, List.length_nil, List.length_map, List.cons_append, List.nil_append, List.replicate, List.getElem?_cons_zero, List.getElem?_cons_succ, List.set_cons_zero, List.set_cons_succ, List.length_set, Option.isSome_some, Nat.sub_self, Nat.reduceAdd, Nat.reduceSub, Nat.reduceLT, if_true, if_false, ite_true, ite_false, reduceIte, Bool.false_eq_true, decide_eq_true_eq, Bool.not_true, Bool.not_false, Nat.zero_add, true_and, and_true, false_and, and_false, and_self, Bool.xor_false, Bool.false_xor, Bool.true_xor, Bool.xor_true, get_new, set_new, get_new1, set_new1, le_0, le_1, le_2, le_3, le_4, le_5, le_6, le_7, le_8, cIn_one, cEq_int, cEq_str, cEq_bl]
  exact finish_same rfl

/-! ## the program -/
def tw (cs l : List Nat) : List Nat := l.takeWhile fun c => decide (c ∈ cs)
theorem end_eq {line cs : List Nat} {a : Nat} {G : GS} (ha : a ≤ line.length) (hl : line.length < 100000) :
    F_end_of_run [.str line, .int a, .str cs] G = .ok (.int ((a + (tw cs (line.drop a)).length : Nat) : Int)) G := by
  have hll : line.length ≤ maxLine := by unfold maxLine; omega
  have W := while_inv (c := W_end_of_run_2) (b := L_end_of_run_2)
    (fun m σ G' => G' = G ∧ ∃ e : Nat, σ = [some (.str line), some (.int a), some (.str cs), some (.int e)] ∧ e ≤ line.length ∧ m = line.length - e ∧ e + (tw cs (line.drop e)).length = a + (tw cs (line.drop a)).length)
    (line.length - a) fuel [some (.str line), some (.int a), some (.str cs), some (.int a)] G (by unfold fuel; omega) ⟨rfl, a, rfl, ha, rfl, rfl⟩ (by
      rintro m σ G' ⟨rfl, e, rfl, he, rfl, hw⟩
      by_cases h : e < line.length
      · have eg : line[e]? = some line[e] := List.getElem?_eq_getElem h
        refine ⟨decide (line[e] ∈ cs), G', ?_, fun k => ?_⟩
        · simp only [S_end_of_run_1, S_end_of_run_3, W_end_of_run_2, L_end_of_run_2, S_end_of_run_2, S_end_of_run_4, cIn_one, Int.ofNat_lt, h, eg, hll, runF, sSeq, sAsg, sSetI, sIf, sRet, sRetN, sExp, sBrk, sCont, sNil, sFor, sAug, sAsgG, asgR, gN, gT, gsCons, gsNil, iSeqL, iSeqT, iRg1, iRg2, eBin, eUn, eVar, eCst, eApp, eCall, eTup, eLst, eNew, eSl, oSome, oNone, aCons, aNil, dT, dAnd, dOr, dNot, eAnd, eOr, eNot, eIf, truth, eMt, isLst, isStr, seqOf, lstOf, setI, bIx, bAdd, bSub, bNeg, bIadd, cLt, cLe, cGt, cGe, cIsN, fLen, fMax, fMin, fAbs, fInt, fStr, fTuple, fList, mAppend, bSl, bindE_ok, bindE_exc, bindE_bad, bindS_ok, bindS_exc, bindS_bad, seqR_nx, seqR_ret, seqR_brk, seqR_cont, seqR_exc, seqR_bad, turnR_nx, turnR_ret, turnR_brk, turnR_cont, turnR_exc, turnR_bad, atI_0, atI_1, atI_lit, atI_natC, ixN_0, ixN_1, ixN_nat, List.map_cons, List.map_nil, List.length_cons, List.length_nil, List.length_map, List.cons_append, List.nil_append, List.replicate, List.getElem?_cons_zero, List.getElem?_cons_succ, List.set_cons_zero, List.set_cons_succ, List.length_set, Option.isSome_some, Nat.sub_self, Nat.reduceAdd, Nat.reduceSub, Nat.reduceLT, if_true, if_false, ite_true, ite_false, reduceIte, Bool.false_eq_true, decide_eq_true_eq, Bool.not_true, Bool.not_false, Nat.zero_add, true_and, and_true, false_and, and_false, and_self, Bool.xor_false, Bool.false_xor, Bool.true_xor, Bool.xor_true, get_new, set_new, get_new1, set_new1, le_0, le_1, le_2, le_3, le_4, le_5, le_6, le_7, le_8, cIn_one, cEq_int, cEq_str, cEq_bl]
        · refine ⟨[some (.str line), some (.int a), some (.str cs), some (.int ((e + 1 : Nat) : Int))], G', line.length - (e + 1), .inl ?_, by omega, rfl, e + 1, rfl, h, rfl, ?_⟩
          · simp only [S_end_of_run_1, S_end_of_run_3, W_end_of_run_2, L_end_of_run_2, S_end_of_run_2, S_end_of_run_4, runF, sSeq, sAsg, sSetI, sIf, sRet, sRetN, sExp, sBrk, sCont, sNil, sFor, sAug, sAsgG, asgR, gN, gT, gsCons, gsNil, iSeqL, iSeqT, iRg1, iRg2, eBin, eUn, eVar, eCst, eApp, eCall, eTup, eLst, eNew, eSl, oSome, oNone, aCons, aNil, dT, dAnd, dOr, dNot, eAnd, eOr, eNot, eIf, truth, eMt, isLst, isStr, seqOf, lstOf, setI, bIx, bAdd, bSub, bNeg, bIadd, cLt, cLe, cGt, cGe, cIsN, fLen, fMax, fMin, fAbs, fInt, fStr, fTuple, fList, mAppend, bSl, bindE_ok, bindE_exc, bindE_bad, bindS_ok, bindS_exc, bindS_bad, seqR_nx, seqR_ret, seqR_brk, seqR_cont, seqR_exc, seqR_bad, turnR_nx, turnR_ret, turnR_brk, turnR_cont, turnR_exc, turnR_bad, atI_0, atI_1, atI_lit, atI_natC, ixN_0, ixN_1, ixN_nat, List.map_cons, List.map_nil, List.length_cons, List.length_nil, List.length_map, List.cons_append, List.nil_append, List.replicate, List.getElem?_cons_zero, List.getElem?_cons_succ, List.set_cons_zero, List.set_cons_succ, List.length_set, Option.isSome_some, Nat.sub_self, Nat.reduceAdd, Nat.reduceSub, Nat.reduceLT, if_true, if_false, ite_true, ite_false, reduceIte, Bool.false_eq_true, decide_eq_true_eq, Bool.not_true, Bool.not_false, Nat.zero_add, true_and, and_true, false_and, and_false, and_self, Bool.xor_false, Bool.false_xor, Bool.true_xor, Bool.xor_true, get_new, set_new, get_new1, set_new1, le_0, le_1, le_2, le_3, le_4, le_5, le_6, le_7, le_8, cIn_one, cEq_int, cEq_str, cEq_bl]; rfl
          · rw [List.drop_eq_getElem_cons h] at hw
            unfold tw at hw ⊢
            rw [List.takeWhile_cons, if_pos k, List.length_cons] at hw
            omega
      · refine ⟨false, G', ?_, fun k => nomatch k⟩
        simp only [S_end_of_run_1, S_end_of_run_3, W_end_of_run_2, L_end_of_run_2, S_end_of_run_2, S_end_of_run_4, Int.ofNat_lt, h, hll, decide_false, runF, sSeq, sAsg, sSetI, sIf, sRet, sRetN, sExp, sBrk, sCont, sNil, sFor, sAug, sAsgG, asgR, gN, gT, gsCons, gsNil, iSeqL, iSeqT, iRg1, iRg2, eBin, eUn, eVar, eCst, eApp, eCall, eTup, eLst, eNew, eSl, oSome, oNone, aCons, aNil, dT, dAnd, dOr, dNot, eAnd, eOr, eNot, eIf, truth, eMt, isLst, isStr, seqOf, lstOf, setI, bIx, bAdd, bSub, bNeg, bIadd, cLt, cLe, cGt, cGe, cIsN, fLen, fMax, fMin, fAbs, fInt, fStr, fTuple, fList, mAppend, bSl, bindE_ok, bindE_exc, bindE_bad, bindS_ok, bindS_exc, bindS_bad, seqR_nx, seqR_ret, seqR_brk, seqR_cont, seqR_exc, seqR_bad, turnR_nx, turnR_ret, turnR_brk, turnR_cont, turnR_exc, turnR_bad, atI_0, atI_1, atI_lit, atI_natC, ixN_0, ixN_1, ixN_nat, List.map_cons, List.map_nil, List.length_cons, List.length_nil, List.length_map, List.cons_append, List.nil_append, List.replicate, List.getElem?_cons_zero, List.getElem?_cons_succ, List.set_cons_zero, List.set_cons_succ, List.length_set, Option.isSome_some, Nat.sub_self, Nat.reduceAdd, Nat.reduceSub, Nat.reduceLT, if_true, if_false, ite_true, ite_false, reduceIte, Bool.false_eq_true, decide_eq_true_eq, Bool.not_true, Bool.not_false, Nat.zero_add, true_and, and_true, false_and, and_false, and_self, Bool.xor_false, Bool.false_xor, Bool.true_xor, Bool.xor_true, get_new, set_new, get_new1, set_new1, le_0, le_1, le_2, le_3, le_4, le_5, le_6, le_7, le_8, cIn_one, cEq_int, cEq_str, cEq_bl])
  obtain ⟨σ', G', G0, m', e1, ⟨rfl, e, rfl, he, _, hw⟩, e2⟩ := W
  have fin : (tw cs (line.drop e)).length = 0 ∧ G' = G0 := by
    by_cases h : e < line.length
    · have eg : line[e]? = some line[e] := List.getElem?_eq_getElem h
      simp only [S_end_of_run_1, S_end_of_run_3, W_end_of_run_2, L_end_of_run_2, S_end_of_run_2, S_end_of_run_4, cIn_one, Int.ofNat_lt, h, eg, hll, runF, sSeq, sAsg, sSetI, sIf, sRet, sRetN, sExp, sBrk, sCont, sNil, sFor, sAug, sAsgG, asgR, gN, gT, gsCons, gsNil, iSeqL, iSeqT, iRg1, iRg2, eBin, eUn, eVar, eCst, eApp, eCall, eTup, eLst, eNew, eSl, oSome, oNone, aCons, aNil, dT, dAnd, dOr, dNot, eAnd, eOr, eNot, eIf, truth, eMt, isLst, isStr, seqOf, lstOf, setI, bIx, bAdd, bSub, bNeg, bIadd, cLt, cLe, cGt, cGe, cIsN, fLen, fMax, fMin, fAbs, fInt, fStr, fTuple, fList, mAppend, bSl, bindE_ok, bindE_exc, bindE_bad, bindS_ok, bindS_exc, bindS_bad, seqR_nx, seqR_ret, seqR_brk, seqR_cont, seqR_exc, seqR_bad, turnR_nx, turnR_ret, turnR_brk, turnR_cont, turnR_exc, turnR_bad, atI_0, atI_1, atI_lit, atI_natC, ixN_0, ixN_1, ixN_nat, List.map_cons, List.map_nil, List.length_cons, List.length_nil, List.length_map, List.cons_append, List.nil_append, List.replicate, List.getElem?_cons_zero, List.getElem?_cons_succ, List.set_cons_zero, List.set_cons_succ, List.length_set, Option.isSome_some, Nat.sub_self, Nat.reduceAdd, Nat.reduceSub, Nat.reduceLT, if_true, if_false, ite_true, ite_false, reduceIte, Bool.false_eq_true, decide_eq_true_eq, Bool.not_true, Bool.not_false, Nat.zero_add, true_and, and_true, false_and, and_false, and_self, Bool.xor_false, Bool.false_xor, Bool.true_xor, Bool.xor_true, get_new, set_new, get_new1, set_new1, le_0, le_1, le_2, le_3, le_4, le_5, le_6, le_7, le_8, cIn_one, cEq_int, cEq_str, cEq_bl] at e2
      injection e2 with e2 e3
      refine ⟨?_, e3.symm⟩
      rw [List.drop_eq_getElem_cons h]
      unfold tw
      rw [List.takeWhile_cons, if_neg (by rw [e2]; exact Bool.false_ne_true)]
      rfl
    · rw [List.drop_eq_nil_of_le (by omega)]
      simp only [S_end_of_run_1, S_end_of_run_3, W_end_of_run_2, L_end_of_run_2, S_end_of_run_2, S_end_of_run_4, Int.ofNat_lt, h, hll, decide_false, runF, sSeq, sAsg, sSetI, sIf, sRet, sRetN, sExp, sBrk, sCont, sNil, sFor, sAug, sAsgG, asgR, gN, gT, gsCons, gsNil, iSeqL, iSeqT, iRg1, iRg2, eBin, eUn, eVar, eCst, eApp, eCall, eTup, eLst, eNew, eSl, oSome, oNone, aCons, aNil, dT, dAnd, dOr, dNot, eAnd, eOr, eNot, eIf, truth, eMt, isLst, isStr, seqOf, lstOf, setI, bIx, bAdd, bSub, bNeg, bIadd, cLt, cLe, cGt, cGe, cIsN, fLen, fMax, fMin, fAbs, fInt, fStr, fTuple, fList, mAppend, bSl, bindE_ok, bindE_exc, bindE_bad, bindS_ok, bindS_exc, bindS_bad, seqR_nx, seqR_ret, seqR_brk, seqR_cont, seqR_exc, seqR_bad, turnR_nx, turnR_ret, turnR_brk, turnR_cont, turnR_exc, turnR_bad, atI_0, atI_1, atI_lit, atI_natC, ixN_0, ixN_1, ixN_nat, List.map_cons, List.map_nil, List.length_cons, List.length_nil, List.length_map, List.cons_append, List.nil_append, List.replicate, List.getElem?_cons_zero, List.getElem?_cons_succ, List.set_cons_zero, List.set_cons_succ, List.length_set, Option.isSome_some, Nat.sub_self, Nat.reduceAdd, Nat.reduceSub, Nat.reduceLT, if_true, if_false, ite_true, ite_false, reduceIte, Bool.false_eq_true, decide_eq_true_eq, Bool.not_true, Bool.not_false, Nat.zero_add, true_and, and_true, false_and, and_false, and_self, Bool.xor_false, Bool.false_xor, Bool.true_xor, Bool.xor_true, get_new, set_new, get_new1, set_new1, le_0, le_1, le_2, le_3, le_4, le_5, le_6, le_7, le_8, cIn_one, cEq_int, cEq_str, cEq_bl] at e2
      injection e2 with e2 e3
      exact ⟨rfl, e3.symm⟩
  obtain ⟨f1, rfl⟩ := fin
  simp only [S_end_of_run_1, S_end_of_run_3, S_end_of_run_2, S_end_of_run_4, B_end_of_run, F_end_of_run, e1, runF, sSeq, sAsg, sSetI, sIf, sRet, sRetN, sExp, sBrk, sCont, sNil, sFor, sAug, sAsgG, asgR, gN, gT, gsCons, gsNil, iSeqL, iSeqT, iRg1, iRg2, eBin, eUn, eVar, eCst, eApp, eCall, eTup, eLst, eNew, eSl, oSome, oNone, aCons, aNil, dT, dAnd, dOr, dNot, eAnd, eOr, eNot, eIf, truth, eMt, isLst, isStr, seqOf, lstOf, setI, bIx, bAdd, bSub, bNeg, bIadd, cLt, cLe, cGt, cGe, cIsN, fLen, fMax, fMin, fAbs, fInt, fStr, fTuple, fList, mAppend, bSl, bindE_ok, bindE_exc, bindE_bad, bindS_ok, bindS_exc, bindS_bad, seqR_nx, seqR_ret, seqR_brk, seqR_cont, seqR_exc, seqR_bad, turnR_nx, turnR_ret, turnR_brk, turnR_cont, turnR_exc, turnR_bad, atI_0, atI_1, atI_lit, atI_natC, ixN_0, ixN_1, ixN_nat, List.map_cons, List.map_nil, List.length_cons, List.length_nil, List.length_map, List.cons_append, List.nil_append, List.replicate, List.getElem?_cons_zero, List.getElem?_cons_succ, List.set_cons_zero, List.set_cons_succ, List.length_set, Option.isSome_some, Nat.sub_self, Nat.reduceAdd, Nat.reduceSub, Nat.reduceLT, if_true, if_false, ite_true, ite_false, reduceIte, Bool.false_eq_true, decide_eq_true_eq, Bool.not_true, Bool.not_false, Nat.zero_add, true_and, and_true, false_and, and_false, and_self, Bool.xor_false, Bool.false_xor, Bool.true_xor, Bool.xor_true, get_new, set_new, get_new1, set_new1, le_0, le_1, le_2, le_3, le_4, le_5, le_6, le_7, le_8, cIn_one, cEq_int, cEq_str, cEq_bl]
  rw [finish_same rfl, ← hw, f1]
  rfl
def LT : List Nat := lit "abcdefghijklmnopqrstuvwxyz"
def DG : List Nat := lit "0123456789"
def tokAt : List Nat → List Nat
  | [] => []
  | c :: r => if c ∈ LT then tw LT (c :: r) else if c ∈ DG then tw DG (c :: r) else [c]
theorem tw_take (cs l : List Nat) : l.take (tw cs l).length = tw cs l := by
  unfold tw
  exact (List.prefix_iff_eq_take.mp (List.takeWhile_prefix _)).symm
theorem tw_le (cs l : List Nat) : (tw cs l).length ≤ l.length := (List.takeWhile_prefix _).length_le
theorem cut_nat {α : Type} (l : List α) (a b : Nat) (hb : b ≤ l.length) (ha : a ≤ b) : cutL l (some (a : Int)) (some (b : Int)) = (l.drop a).take (b - a) := by
  unfold cutL
  rw [HT.sIx_nat, HT.sIx_nat, Nat.min_eq_left hb, Nat.min_eq_left (by omega)]
theorem string_at_eq {line : List Nat} {a : Nat} {G : GS} (ha : a < line.length) (hl : line.length < 100000) :
    F_string_at [.str line, .int a] G = .ok (.str (tokAt (line.drop a))) G := by
  have hll : line.length ≤ maxLine := by unfold maxLine; omega
  have eg : line[a]? = some line[a] := List.getElem?_eq_getElem ha
  have cut : ∀ cs, cutL line (some (a : Int)) (some ((a + (tw cs (line.drop a)).length : Nat) : Int)) = tw cs (line.drop a) := fun cs => by
    have := tw_le cs (line.drop a)
    rw [List.length_drop] at this
    rw [cut_nat _ _ _ (by omega) (by omega), Nat.add_sub_cancel_left, tw_take]
  have dr := List.drop_eq_getElem_cons ha
  have tA : tokAt (line.drop a) = if line[a] ∈ LT then tw LT (line.drop a) else if line[a] ∈ DG then tw DG (line.drop a) else [line[a]] := by
    rw [dr]; rfl
  rw [tA]
  by_cases h1 : line[a] ∈ LT
  · have h1' : line[a] ∈ lit "abcdefghijklmnopqrstuvwxyz" := h1
    simp only [C_string_at_1, S_string_at_2, S_string_at_1, C_string_at_3, S_string_at_4, S_string_at_3, S_string_at_5, B_string_at, F_string_at, hll, eg, end_eq (line := line) (a := a) (Nat.le_of_lt ha) hl, cut, h1', h1, decide_true, runF, sSeq, sAsg, sSetI, sIf, sRet, sRetN, sExp, sBrk, sCont, sNil, sFor, sAug, sAsgG, asgR, gN, gT, gsCons, gsNil, iSeqL, iSeqT, iRg1, iRg2, eBin, eUn, eVar, eCst, eApp, eCall, eTup, eLst, eNew, eSl, oSome, oNone, aCons, aNil, dT, dAnd, dOr, dNot, eAnd, eOr, eNot, eIf, truth, eMt, isLst, isStr, seqOf, lstOf, setI, bIx, bAdd, bSub, bNeg, bIadd, cLt, cLe, cGt, cGe, cIsN, fLen, fMax, fMin, fAbs, fInt, fStr, fTuple, fList, mAppend, bSl, bindE_ok, bindE_exc, bindE_bad, bindS_ok, bindS_exc, bindS_bad, seqR_nx, seqR_ret, seqR_brk, seqR_cont, seqR_exc, seqR_bad, turnR_nx, turnR_ret, turnR_brk, turnR_cont, turnR_exc, turnR_bad, atI_0, atI_1, atI_lit, atI_natC, ixN_0, ixN_1, ixN_nat, List.map_cons, List.map_nil, List.length_cons, List.length_nil, List.length_map, List.cons_append, List.nil_append, List.replicate, List.getElem?_cons_zero, List.getElem?_cons_succ, List.set_cons_zero, List.set_cons_succ, List.length_set, Option.isSome_some, Nat.sub_self, Nat.reduceAdd, Nat.reduceSub, Nat.reduceLT, if_true, if_false, ite_true, ite_false, reduceIte, Bool.false_eq_true, decide_eq_true_eq, Bool.not_true, Bool.not_false, Nat.zero_add, true_and, and_true, false_and, and_false, and_self, Bool.xor_false, Bool.false_xor, Bool.true_xor, Bool.xor_true, get_new, set_new, get_new1, set_new1, le_0, le_1, le_2, le_3, le_4, le_5, le_6, le_7, le_8, cIn_one, cEq_int, cEq_str, cEq_bl]
    exact finish_same rfl
  · have h1' : ¬ line[a] ∈ lit "abcdefghijklmnopqrstuvwxyz" := h1
    by_cases h2 : line[a] ∈ DG
    · have h2' : line[a] ∈ lit "0123456789" := h2
      simp only [C_string_at_1, S_string_at_2, S_string_at_1, C_string_at_3, S_string_at_4, S_string_at_3, S_string_at_5, B_string_at, F_string_at, hll, eg, end_eq (line := line) (a := a) (Nat.le_of_lt ha) hl, cut, h1', h1, h2, h2', decide_true, decide_false, runF, sSeq, sAsg, sSetI, sIf, sRet, sRetN, sExp, sBrk, sCont, sNil, sFor, sAug, sAsgG, asgR, gN, gT, gsCons, gsNil, iSeqL, iSeqT, iRg1, iRg2, eBin, eUn, eVar, eCst, eApp, eCall, eTup, eLst, eNew, eSl, oSome, oNone, aCons, aNil, dT, dAnd, dOr, dNot, eAnd, eOr, eNot, eIf, truth, eMt, isLst, isStr, seqOf, lstOf, setI, bIx, bAdd, bSub, bNeg, bIadd, cLt, cLe, cGt, cGe, cIsN, fLen, fMax, fMin, fAbs, fInt, fStr, fTuple, fList, mAppend, bSl, bindE_ok, bindE_exc, bindE_bad, bindS_ok, bindS_exc, bindS_bad, seqR_nx, seqR_ret, seqR_brk, seqR_cont, seqR_exc, seqR_bad, turnR_nx, turnR_ret, turnR_brk, turnR_cont, turnR_exc, turnR_bad, atI_0, atI_1, atI_lit, atI_natC, ixN_0, ixN_1, ixN_nat, List.map_cons, List.map_nil, List.length_cons, List.length_nil, List.length_map, List.cons_append, List.nil_append, List.replicate, List.getElem?_cons_zero, List.getElem?_cons_succ, List.set_cons_zero, List.set_cons_succ, List.length_set, Option.isSome_some, Nat.sub_self, Nat.reduceAdd, Nat.reduceSub, Nat.reduceLT, if_true, if_false, ite_true, ite_false, reduceIte, Bool.false_eq_true, decide_eq_true_eq, Bool.not_true, Bool.not_false, Nat.zero_add, true_and, and_true, false_and, and_false, and_self, Bool.xor_false, Bool.false_xor, Bool.true_xor, Bool.xor_true, get_new, set_new, get_new1, set_new1, le_0, le_1, le_2, le_3, le_4, le_5, le_6, le_7, le_8, cIn_one, cEq_int, cEq_str, cEq_bl]
      exact finish_same rfl
    · have h2' : ¬ line[a] ∈ lit "0123456789" := h2
      simp only [C_string_at_1, S_string_at_2, S_string_at_1, C_string_at_3, S_string_at_4, S_string_at_3, S_string_at_5, B_string_at, F_string_at, hll, eg, h1', h1, h2, h2', decide_false, runF, sSeq, sAsg, sSetI, sIf, sRet, sRetN, sExp, sBrk, sCont, sNil, sFor, sAug, sAsgG, asgR, gN, gT, gsCons, gsNil, iSeqL, iSeqT, iRg1, iRg2, eBin, eUn, eVar, eCst, eApp, eCall, eTup, eLst, eNew, eSl, oSome, oNone, aCons, aNil, dT, dAnd, dOr, dNot, eAnd, eOr, eNot, eIf, truth, eMt, isLst, isStr, seqOf, lstOf, setI, bIx, bAdd, bSub, bNeg, bIadd, cLt, cLe, cGt, cGe, cIsN, fLen, fMax, fMin, fAbs, fInt, fStr, fTuple, fList, mAppend, bSl, bindE_ok, bindE_exc, bindE_bad, bindS_ok, bindS_exc, bindS_bad, seqR_nx, seqR_ret, seqR_brk, seqR_cont, seqR_exc, seqR_bad, turnR_nx, turnR_ret, turnR_brk, turnR_cont, turnR_exc, turnR_bad, atI_0, atI_1, atI_lit, atI_natC, ixN_0, ixN_1, ixN_nat, List.map_cons, List.map_nil, List.length_cons, List.length_nil, List.length_map, List.cons_append, List.nil_append, List.replicate, List.getElem?_cons_zero, List.getElem?_cons_succ, List.set_cons_zero, List.set_cons_succ, List.length_set, Option.isSome_some, Nat.sub_self, Nat.reduceAdd, Nat.reduceSub, Nat.reduceLT, if_true, if_false, ite_true, ite_false, reduceIte, Bool.false_eq_true, decide_eq_true_eq, Bool.not_true, Bool.not_false, Nat.zero_add, true_and, and_true, false_and, and_false, and_self, Bool.xor_false, Bool.false_xor, Bool.true_xor, Bool.xor_true, get_new, set_new, get_new1, set_new1, le_0, le_1, le_2, le_3, le_4, le_5, le_6, le_7, le_8, cIn_one, cEq_int, cEq_str, cEq_bl]
      exact finish_same rfl
/-- the kind of a token -/
def numM (t : List Nat) : Bool := decide (t.length ≤ 4) && (decide (t = lit "0") || !decide (t.take 1 = lit "0"))
def kindM (t : List Nat) : List Nat :=
  if t.headD 0 ∈ LT ∧ t.length ≤ 12 then lit "name" else
  if t.headD 0 ∈ DG ∧ numM t = true then lit "number" else if subS t (lit ":,;") = true then lit "sign" else lit "bad"
theorem is_number_eq {c : Nat} {r : List Nat} {G : GS} (hl : (c :: r).length ≤ 100000) : F_is_number [.str (c :: r)] G = .ok (.bl (numM (c :: r))) G := by
  have hll : r.length + 1 ≤ maxLine := by rw [List.length_cons] at hl; unfold maxLine; omega
  have c1 : ∀ G, eBin cLe (eApp fLen (aCons (eVar 0) aNil)) (eCst (.int 4)) [some (.str (c :: r))] G = .ok (.bl (decide ((c :: r).length ≤ 4))) G := fun G => by
    have e0 : (((r.length + 1 : Nat) : Int) ≤ 4) ↔ r.length + 1 ≤ 4 := by omega
    simp only [hll, e0, runF, sSeq, sAsg, sSetI, sIf, sRet, sRetN, sExp, sBrk, sCont, sNil, sFor, sAug, sAsgG, asgR, gN, gT, gsCons, gsNil, iSeqL, iSeqT, iRg1, iRg2, eBin, eUn, eVar, eCst, eApp, eCall, eTup, eLst, eNew, eSl, oSome, oNone, aCons, aNil, dT, dAnd, dOr, dNot, eAnd, eOr, eNot, eIf, truth, eMt, isLst, isStr, seqOf, lstOf, setI, bIx, bAdd, bSub, bNeg, bIadd, cLt, cLe, cGt, cGe, cIsN, fLen, fMax, fMin, fAbs, fInt, fStr, fTuple, fList, mAppend, bSl, bindE_ok, bindE_exc, bindE_bad, bindS_ok, bindS_exc, bindS_bad, seqR_nx, seqR_ret, seqR_brk, seqR_cont, seqR_exc, seqR_bad, turnR_nx, turnR_ret, turnR_brk, turnR_cont, turnR_exc, turnR_bad, atI_0, atI_1, atI_lit, atI_natC, ixN_0, ixN_1, ixN_nat, List.map_cons, List.map_nil, List.length_cons, List.length_nil, List.length_map, List.cons_append, List.nil_append, List.replicate, List.getElem?_cons_zero, List.getElem?_cons_succ, List.set_cons_zero, List.set_cons_succ, List.length_set, Option.isSome_some, Nat.sub_self, Nat.reduceAdd, Nat.reduceSub, Nat.reduceLT, if_true, if_false, ite_true, ite_false, reduceIte, Bool.false_eq_true, decide_eq_true_eq, Bool.not_true, Bool.not_false, Nat.zero_add, true_and, and_true, false_and, and_false, and_self, Bool.xor_false, Bool.false_xor, Bool.true_xor, Bool.xor_true, get_new, set_new, get_new1, set_new1, le_0, le_1, le_2, le_3, le_4, le_5, le_6, le_7, le_8, cIn_one, cEq_int, cEq_str, cEq_bl]
  have c2 : ∀ G, eBin (cEqB false) (eVar 0) (eCst (.str (lit "0"))) [some (.str (c :: r))] G = .ok (.bl (decide (c :: r = lit "0"))) G := fun G => by
    simp only [runF, sSeq, sAsg, sSetI, sIf, sRet, sRetN, sExp, sBrk, sCont, sNil, sFor, sAug, sAsgG, asgR, gN, gT, gsCons, gsNil, iSeqL, iSeqT, iRg1, iRg2, eBin, eUn, eVar, eCst, eApp, eCall, eTup, eLst, eNew, eSl, oSome, oNone, aCons, aNil, dT, dAnd, dOr, dNot, eAnd, eOr, eNot, eIf, truth, eMt, isLst, isStr, seqOf, lstOf, setI, bIx, bAdd, bSub, bNeg, bIadd, cLt, cLe, cGt, cGe, cIsN, fLen, fMax, fMin, fAbs, fInt, fStr, fTuple, fList, mAppend, bSl, bindE_ok, bindE_exc, bindE_bad, bindS_ok, bindS_exc, bindS_bad, seqR_nx, seqR_ret, seqR_brk, seqR_cont, seqR_exc, seqR_bad, turnR_nx, turnR_ret, turnR_brk, turnR_cont, turnR_exc, turnR_bad, atI_0, atI_1, atI_lit, atI_natC, ixN_0, ixN_1, ixN_nat, List.map_cons, List.map_nil, List.length_cons, List.length_nil, List.length_map, List.cons_append, List.nil_append, List.replicate, List.getElem?_cons_zero, List.getElem?_cons_succ, List.set_cons_zero, List.set_cons_succ, List.length_set, Option.isSome_some, Nat.sub_self, Nat.reduceAdd, Nat.reduceSub, Nat.reduceLT, if_true, if_false, ite_true, ite_false, reduceIte, Bool.false_eq_true, decide_eq_true_eq, Bool.not_true, Bool.not_false, Nat.zero_add, true_and, and_true, false_and, and_false, and_self, Bool.xor_false, Bool.false_xor, Bool.true_xor, Bool.xor_true, get_new, set_new, get_new1, set_new1, le_0, le_1, le_2, le_3, le_4, le_5, le_6, le_7, le_8, cIn_one, cEq_int, cEq_str, cEq_bl]
  have c3 : ∀ G, eBin (cEqB true) (eBin bIx (eVar 0) (eCst (.int 0))) (eCst (.str (lit "0"))) [some (.str (c :: r))] G = .ok (.bl (!decide ((c :: r).take 1 = lit "0"))) G := fun G => by
    simp only [hll, List.take_succ_cons, List.take_zero, runF, sSeq, sAsg, sSetI, sIf, sRet, sRetN, sExp, sBrk, sCont, sNil, sFor, sAug, sAsgG, asgR, gN, gT, gsCons, gsNil, iSeqL, iSeqT, iRg1, iRg2, eBin, eUn, eVar, eCst, eApp, eCall, eTup, eLst, eNew, eSl, oSome, oNone, aCons, aNil, dT, dAnd, dOr, dNot, eAnd, eOr, eNot, eIf, truth, eMt, isLst, isStr, seqOf, lstOf, setI, bIx, bAdd, bSub, bNeg, bIadd, cLt, cLe, cGt, cGe, cIsN, fLen, fMax, fMin, fAbs, fInt, fStr, fTuple, fList, mAppend, bSl, bindE_ok, bindE_exc, bindE_bad, bindS_ok, bindS_exc, bindS_bad, seqR_nx, seqR_ret, seqR_brk, seqR_cont, seqR_exc, seqR_bad, turnR_nx, turnR_ret, turnR_brk, turnR_cont, turnR_exc, turnR_bad, atI_0, atI_1, atI_lit, atI_natC, ixN_0, ixN_1, ixN_nat, List.map_cons, List.map_nil, List.length_cons, List.length_nil, List.length_map, List.cons_append, List.nil_append, List.replicate, List.getElem?_cons_zero, List.getElem?_cons_succ, List.set_cons_zero, List.set_cons_succ, List.length_set, Option.isSome_some, Nat.sub_self, Nat.reduceAdd, Nat.reduceSub, Nat.reduceLT, if_true, if_false, ite_true, ite_false, reduceIte, Bool.false_eq_true, decide_eq_true_eq, Bool.not_true, Bool.not_false, Nat.zero_add, true_and, and_true, false_and, and_false, and_self, Bool.xor_false, Bool.false_xor, Bool.true_xor, Bool.xor_true, get_new, set_new, get_new1, set_new1, le_0, le_1, le_2, le_3, le_4, le_5, le_6, le_7, le_8, cIn_one, cEq_int, cEq_str, cEq_bl]
    rfl
  unfold numM
  generalize decide ((c :: r).length ≤ 4) = b1 at *
  generalize decide (c :: r = lit "0") = b2 at *
  generalize decide ((c :: r).take 1 = lit "0") = b3 at *
  unfold F_is_number B_is_number runF S_is_number_1 sRet eAnd eOr
  cases b1 <;> cases b2 <;> cases b3 <;>
  · simp only [List.map_cons, List.map_nil, List.length_cons, List.length_nil, List.replicate, List.append_nil, Nat.sub_self, Nat.zero_add, c1, c2, c3, truth, bindE_ok, bindS_ok, if_true, if_false, Bool.false_eq_true]
    exact finish_same rfl
theorem cIn_str (neg : Bool) (a b : List Nat) (G : GS) : cIn neg (.str a) (.str b) G = .ok (.bl (xor neg (subS a b))) G := rfl
theorem kind_of_eq {c : Nat} {r : List Nat} {G : GS} (hl : (c :: r).length ≤ 100000) : F_kind_of [.str (c :: r)] G = .ok (.str (kindM (c :: r))) G := by
  have hll : r.length + 1 ≤ maxLine := by rw [List.length_cons] at hl; unfold maxLine; omega
  have e0 : (((r.length + 1 : Nat) : Int) ≤ 12) ↔ r.length + 1 ≤ 12 := by omega
  have n1 := is_number_eq (c := c) (r := r) (G := G) hl
  unfold kindM
  have k1 : c ∈ LT ↔ c ∈ lit "abcdefghijklmnopqrstuvwxyz" := Iff.rfl
  have k2 : c ∈ DG ↔ c ∈ lit "0123456789" := Iff.rfl
  generalize hNM : numM (c :: r) = nm at *
  generalize hSS : subS (c :: r) (lit ":,;") = ss at *
  by_cases h1 : c ∈ lit "abcdefghijklmnopqrstuvwxyz" <;> by_cases h2 : r.length + 1 ≤ 12 <;> by_cases h3 : c ∈ lit "0123456789" <;> cases nm <;> cases ss <;>
  · simp only [C_kind_of_1, S_kind_of_2, S_kind_of_1, C_kind_of_3, S_kind_of_4, S_kind_of_3, C_kind_of_5, S_kind_of_6, S_kind_of_5, S_kind_of_7, B_kind_of, F_kind_of, List.headD_cons, k1, k2, n1, hSS, hll, e0, h1, h2, h3, cIn_str, subS_one, decide_true, decide_false, runF, sSeq, sAsg, sSetI, sIf, sRet, sRetN, sExp, sBrk, sCont, sNil, sFor, sAug, sAsgG, asgR, gN, gT, gsCons, gsNil, iSeqL, iSeqT, iRg1, iRg2, eBin, eUn, eVar, eCst, eApp, eCall, eTup, eLst, eNew, eSl, oSome, oNone, aCons, aNil, dT, dAnd, dOr, dNot, eAnd, eOr, eNot, eIf, truth, eMt, isLst, isStr, seqOf, lstOf, setI, bIx, bAdd, bSub, bNeg, bIadd, cLt, cLe, cGt, cGe, cIsN, fLen, fMax, fMin, fAbs, fInt, fStr, fTuple, fList, mAppend, bSl, bindE_ok, bindE_exc, bindE_bad, bindS_ok, bindS_exc, bindS_bad, seqR_nx, seqR_ret, seqR_brk, seqR_cont, seqR_exc, seqR_bad, turnR_nx, turnR_ret, turnR_brk, turnR_cont, turnR_exc, turnR_bad, atI_0, atI_1, atI_lit, atI_natC, ixN_0, ixN_1, ixN_nat, List.map_cons, List.map_nil, List.length_cons, List.length_nil, List.length_map, List.cons_append, List.nil_append, List.replicate, List.getElem?_cons_zero, List.getElem?_cons_succ, List.set_cons_zero, List.set_cons_succ, List.length_set, Option.isSome_some, Nat.sub_self, Nat.reduceAdd, Nat.reduceSub, Nat.reduceLT, if_true, if_false, ite_true, ite_false, reduceIte, Bool.false_eq_true, decide_eq_true_eq, Bool.not_true, Bool.not_false, Nat.zero_add, true_and, and_true, false_and, and_false, and_self, Bool.xor_false, Bool.false_xor, Bool.true_xor, Bool.xor_true, get_new, set_new, get_new1, set_new1, le_0, le_1, le_2, le_3, le_4, le_5, le_6, le_7, le_8, cIn_one, cEq_int, cEq_str, cEq_bl]
    exact finish_same rfl

/-- the tokens of a line -/
def toksM : Nat → List Nat → List (List Nat)
  | 0, _ => []
  | _ + 1, [] => []
  | n + 1, c :: r => if c = 32 then toksM n r else tokAt (c :: r) :: toksM n ((c :: r).drop (tokAt (c :: r)).length)
theorem tokAt_pos {c : Nat} {r : List Nat} : 0 < (tokAt (c :: r)).length ∧ (tokAt (c :: r)).length ≤ r.length + 1 := by
  show 0 < (if c ∈ LT then tw LT (c :: r) else if c ∈ DG then tw DG (c :: r) else [c]).length ∧ (if c ∈ LT then tw LT (c :: r) else if c ∈ DG then tw DG (c :: r) else [c]).length ≤ r.length + 1
  have h : ∀ cs, c ∈ cs → 0 < (tw cs (c :: r)).length := fun cs hc => by
    unfold tw
    rw [List.takeWhile_cons, if_pos (decide_eq_true hc)]
    exact Nat.succ_pos _
  split
  · rename_i q; exact ⟨h _ q, tw_le _ _⟩
  · split
    · rename_i q; exact ⟨h _ q, tw_le _ _⟩
    · exact ⟨Nat.succ_pos _, by simp⟩
theorem toksM_nil (n : Nat) : toksM n [] = [] := by cases n <;> rfl
theorem toksM_more : ∀ (n : Nat) (l : List Nat), l.length ≤ n → toksM n l = toksM l.length l
  | 0, l, h => by
    have : l = [] := List.length_eq_zero_iff.mp (by omega)
    subst this; rfl
  | n + 1, [], _ => by rw [toksM_nil, toksM_nil]
  | n + 1, c :: r, h => by
    have hr : r.length ≤ n := by simpa using h
    show (if c = 32 then toksM n r else tokAt (c :: r) :: toksM n ((c :: r).drop (tokAt (c :: r)).length)) = if c = 32 then toksM r.length r else tokAt (c :: r) :: toksM r.length ((c :: r).drop (tokAt (c :: r)).length)
    have tp := tokAt_pos (c := c) (r := r)
    have hd : ((c :: r).drop (tokAt (c :: r)).length).length ≤ r.length := by rw [List.length_drop, List.length_cons]; omega
    rw [toksM_more n r hr, toksM_more n _ (Nat.le_trans hd hr)]
    split
    · rfl
    · by_cases hrn : r.length < n + 1
      · rw [← toksM_more r.length ((c :: r).drop (tokAt (c :: r)).length) hd]
      · omega
termination_by n l => n
def toks (l : List Nat) : List (List Nat) := toksM l.length l
theorem toks_nil : toks [] = [] := rfl
theorem toks_sp (r : List Nat) : toks (32 :: r) = toks r := by
  show (if (32 : Nat) = 32 then toksM r.length r else tokAt (32 :: r) :: toksM r.length ((32 :: r).drop (tokAt (32 :: r)).length)) = toksM r.length r
  rw [if_pos rfl]
theorem toks_tok {c : Nat} {r : List Nat} (h : c ≠ 32) : toks (c :: r) = tokAt (c :: r) :: toks ((c :: r).drop (tokAt (c :: r)).length) := by
  show (if c = 32 then toksM r.length r else tokAt (c :: r) :: toksM r.length ((c :: r).drop (tokAt (c :: r)).length)) = _
  rw [if_neg h]
  have tp := tokAt_pos (c := c) (r := r)
  have hd : ((c :: r).drop (tokAt (c :: r)).length).length ≤ r.length := by rw [List.length_drop, List.length_cons]; omega
  rw [toksM_more _ _ hd]; rfl
def tokD (t : List Nat) : D := .tup [.str (kindM t), .str t]
theorem lit_sp : lit " " = [32] := by decide +kernel
theorem tokens_eq {line : List Nat} {G : GS} (hl : line.length < 100000) : F_tokens [.str line] G = .ok (.lst ((toks line).map tokD)) G := by
  have hll : line.length ≤ maxLine := by unfold maxLine; omega
  have W := while_inv (c := W_tokens_3) (b := L_tokens_3)
    (fun m σ G' => ∃ (e : Nat) (acc : List (List Nat)) (s : Option D), σ = [some (.str line), some (.ref G.length), some (.int e), s] ∧ G' = G ++ [.lst (acc.map tokD)] ∧ e ≤ line.length ∧ m = line.length - e ∧ acc ++ toks (line.drop e) = toks line ∧ acc.length ≤ e)
    line.length fuel [some (.str line), some (.ref G.length), some (.int 0), none] (G ++ [.lst []]) (by unfold fuel; omega) ⟨0, [], none, rfl, rfl, Nat.zero_le _, rfl, rfl, Nat.le_refl _⟩ (by
      rintro m σ G' ⟨e, acc, s, rfl, rfl, he, rfl, hw, ha⟩
      by_cases h : e < line.length
      · have eg : line[e]? = some line[e] := List.getElem?_eq_getElem h
        have dr := List.drop_eq_getElem_cons h
        refine ⟨true, G ++ [.lst (acc.map tokD)], ?_, fun _ => ?_⟩
        · simp only [S_tokens_1, S_tokens_2, C_tokens_4, S_tokens_5, S_tokens_7, S_tokens_8, S_tokens_9, S_tokens_4, W_tokens_3, L_tokens_3, S_tokens_3, S_tokens_10, Int.ofNat_lt, h, hll, decide_true, runF, sSeq, sAsg, sSetI, sIf, sRet, sRetN, sExp, sBrk, sCont, sNil, sFor, sAug, sAsgG, asgR, gN, gT, gsCons, gsNil, iSeqL, iSeqT, iRg1, iRg2, eBin, eUn, eVar, eCst, eApp, eCall, eTup, eLst, eNew, eSl, oSome, oNone, aCons, aNil, dT, dAnd, dOr, dNot, eAnd, eOr, eNot, eIf, truth, eMt, isLst, isStr, seqOf, lstOf, setI, bIx, bAdd, bSub, bNeg, bIadd, cLt, cLe, cGt, cGe, cIsN, fLen, fMax, fMin, fAbs, fInt, fStr, fTuple, fList, mAppend, bSl, bindE_ok, bindE_exc, bindE_bad, bindS_ok, bindS_exc, bindS_bad, seqR_nx, seqR_ret, seqR_brk, seqR_cont, seqR_exc, seqR_bad, turnR_nx, turnR_ret, turnR_brk, turnR_cont, turnR_exc, turnR_bad, atI_0, atI_1, atI_lit, atI_natC, ixN_0, ixN_1, ixN_nat, List.map_cons, List.map_nil, List.length_cons, List.length_nil, List.length_map, List.cons_append, List.nil_append, List.replicate, List.getElem?_cons_zero, List.getElem?_cons_succ, List.set_cons_zero, List.set_cons_succ, List.length_set, Option.isSome_some, Nat.sub_self, Nat.reduceAdd, Nat.reduceSub, Nat.reduceLT, if_true, if_false, ite_true, ite_false, reduceIte, Bool.false_eq_true, decide_eq_true_eq, Bool.not_true, Bool.not_false, Nat.zero_add, true_and, and_true, false_and, and_false, and_self, Bool.xor_false, Bool.false_xor, Bool.true_xor, Bool.xor_true, get_new, set_new, get_new1, set_new1, le_0, le_1, le_2, le_3, le_4, le_5, le_6, le_7, le_8, cIn_one, cEq_int, cEq_str, cEq_bl]
        · by_cases h32 : line[e] = 32
          · refine ⟨[some (.str line), some (.ref G.length), some (.int ((e + 1 : Nat) : Int)), s], G ++ [.lst (acc.map tokD)], line.length - (e + 1), .inl ?_, by omega, e + 1, acc, s, rfl, rfl, h, rfl, ?_, by omega⟩
            · simp only [S_tokens_1, S_tokens_2, C_tokens_4, S_tokens_5, S_tokens_7, S_tokens_8, S_tokens_9, S_tokens_4, W_tokens_3, L_tokens_3, S_tokens_3, S_tokens_10, lit_sp, hll, eg, h32, decide_true, runF, sSeq, sAsg, sSetI, sIf, sRet, sRetN, sExp, sBrk, sCont, sNil, sFor, sAug, sAsgG, asgR, gN, gT, gsCons, gsNil, iSeqL, iSeqT, iRg1, iRg2, eBin, eUn, eVar, eCst, eApp, eCall, eTup, eLst, eNew, eSl, oSome, oNone, aCons, aNil, dT, dAnd, dOr, dNot, eAnd, eOr, eNot, eIf, truth, eMt, isLst, isStr, seqOf, lstOf, setI, bIx, bAdd, bSub, bNeg, bIadd, cLt, cLe, cGt, cGe, cIsN, fLen, fMax, fMin, fAbs, fInt, fStr, fTuple, fList, mAppend, bSl, bindE_ok, bindE_exc, bindE_bad, bindS_ok, bindS_exc, bindS_bad, seqR_nx, seqR_ret, seqR_brk, seqR_cont, seqR_exc, seqR_bad, turnR_nx, turnR_ret, turnR_brk, turnR_cont, turnR_exc, turnR_bad, atI_0, atI_1, atI_lit, atI_natC, ixN_0, ixN_1, ixN_nat, List.map_cons, List.map_nil, List.length_cons, List.length_nil, List.length_map, List.cons_append, List.nil_append, List.replicate, List.getElem?_cons_zero, List.getElem?_cons_succ, List.set_cons_zero, List.set_cons_succ, List.length_set, Option.isSome_some, Nat.sub_self, Nat.reduceAdd, Nat.reduceSub, Nat.reduceLT, if_true, if_false, ite_true, ite_false, reduceIte, Bool.false_eq_true, decide_eq_true_eq, Bool.not_true, Bool.not_false, Nat.zero_add, true_and, and_true, false_and, and_false, and_self, Bool.xor_false, Bool.false_xor, Bool.true_xor, Bool.xor_true, get_new, set_new, get_new1, set_new1, le_0, le_1, le_2, le_3, le_4, le_5, le_6, le_7, le_8, cIn_one, cEq_int, cEq_str, cEq_bl]
              rfl
            · rw [dr, h32, toks_sp] at hw
              exact hw
          · have tp := tokAt_pos (c := line[e]) (r := line.drop (e + 1))
            rw [← dr] at tp
            have hd0 : (line.drop (e + 1)).length = line.length - (e + 1) := List.length_drop
            have e32 : ¬ ([line[e]] = [32]) := fun z => h32 (by injection z)
            have hmx : acc.length < maxLine := by unfold maxLine; omega
            have kd : ∀ G, F_kind_of [.str (tokAt (line.drop e))] G = .ok (.str (kindM (tokAt (line.drop e)))) G := fun G => by
              cases q : tokAt (line.drop e) with
              | nil => rw [q] at tp; simp at tp
              | cons c r => exact kind_of_eq (by rw [← q]; omega)
            have tl : (tokAt (line.drop e)).length ≤ maxLine := by unfold maxLine; omega
            refine ⟨[some (.str line), some (.ref G.length), some (.int ((e + (tokAt (line.drop e)).length : Nat) : Int)), some (.str (tokAt (line.drop e)))], G ++ [.lst ((acc ++ [tokAt (line.drop e)]).map tokD)], line.length - (e + (tokAt (line.drop e)).length), .inl ?_, by omega, _, _, _, rfl, rfl, by omega, rfl, ?_, by simp; omega⟩
            · simp only [S_tokens_1, S_tokens_2, C_tokens_4, S_tokens_5, S_tokens_7, S_tokens_8, S_tokens_9, S_tokens_4, W_tokens_3, L_tokens_3, S_tokens_3, S_tokens_10, lit_sp, hll, eg, e32, decide_false, string_at_eq (line := line) (a := e) h hl, kd, tl, hmx, List.map_append, tokD, runF, sSeq, sAsg, sSetI, sIf, sRet, sRetN, sExp, sBrk, sCont, sNil, sFor, sAug, sAsgG, asgR, gN, gT, gsCons, gsNil, iSeqL, iSeqT, iRg1, iRg2, eBin, eUn, eVar, eCst, eApp, eCall, eTup, eLst, eNew, eSl, oSome, oNone, aCons, aNil, dT, dAnd, dOr, dNot, eAnd, eOr, eNot, eIf, truth, eMt, isLst, isStr, seqOf, lstOf, setI, bIx, bAdd, bSub, bNeg, bIadd, cLt, cLe, cGt, cGe, cIsN, fLen, fMax, fMin, fAbs, fInt, fStr, fTuple, fList, mAppend, bSl, bindE_ok, bindE_exc, bindE_bad, bindS_ok, bindS_exc, bindS_bad, seqR_nx, seqR_ret, seqR_brk, seqR_cont, seqR_exc, seqR_bad, turnR_nx, turnR_ret, turnR_brk, turnR_cont, turnR_exc, turnR_bad, atI_0, atI_1, atI_lit, atI_natC, ixN_0, ixN_1, ixN_nat, List.map_cons, List.map_nil, List.length_cons, List.length_nil, List.length_map, List.cons_append, List.nil_append, List.replicate, List.getElem?_cons_zero, List.getElem?_cons_succ, List.set_cons_zero, List.set_cons_succ, List.length_set, Option.isSome_some, Nat.sub_self, Nat.reduceAdd, Nat.reduceSub, Nat.reduceLT, if_true, if_false, ite_true, ite_false, reduceIte, Bool.false_eq_true, decide_eq_true_eq, Bool.not_true, Bool.not_false, Nat.zero_add, true_and, and_true, false_and, and_false, and_self, Bool.xor_false, Bool.false_xor, Bool.true_xor, Bool.xor_true, get_new, set_new, get_new1, set_new1, le_0, le_1, le_2, le_3, le_4, le_5, le_6, le_7, le_8, cIn_one, cEq_int, cEq_str, cEq_bl]
              rfl
            · rw [dr, toks_tok h32, ← dr, List.drop_drop] at hw
              rw [List.append_assoc]
              exact hw
      · refine ⟨false, G ++ [.lst (acc.map tokD)], ?_, fun k => nomatch k⟩
        simp only [S_tokens_1, S_tokens_2, C_tokens_4, S_tokens_5, S_tokens_7, S_tokens_8, S_tokens_9, S_tokens_4, W_tokens_3, L_tokens_3, S_tokens_3, S_tokens_10, Int.ofNat_lt, h, hll, decide_false, runF, sSeq, sAsg, sSetI, sIf, sRet, sRetN, sExp, sBrk, sCont, sNil, sFor, sAug, sAsgG, asgR, gN, gT, gsCons, gsNil, iSeqL, iSeqT, iRg1, iRg2, eBin, eUn, eVar, eCst, eApp, eCall, eTup, eLst, eNew, eSl, oSome, oNone, aCons, aNil, dT, dAnd, dOr, dNot, eAnd, eOr, eNot, eIf, truth, eMt, isLst, isStr, seqOf, lstOf, setI, bIx, bAdd, bSub, bNeg, bIadd, cLt, cLe, cGt, cGe, cIsN, fLen, fMax, fMin, fAbs, fInt, fStr, fTuple, fList, mAppend, bSl, bindE_ok, bindE_exc, bindE_bad, bindS_ok, bindS_exc, bindS_bad, seqR_nx, seqR_ret, seqR_brk, seqR_cont, seqR_exc, seqR_bad, turnR_nx, turnR_ret, turnR_brk, turnR_cont, turnR_exc, turnR_bad, atI_0, atI_1, atI_lit, atI_natC, ixN_0, ixN_1, ixN_nat, List.map_cons, List.map_nil, List.length_cons, List.length_nil, List.length_map, List.cons_append, List.nil_append, List.replicate, List.getElem?_cons_zero, List.getElem?_cons_succ, List.set_cons_zero, List.set_cons_succ, List.length_set, Option.isSome_some, Nat.sub_self, Nat.reduceAdd, Nat.reduceSub, Nat.reduceLT, if_true, if_false, ite_true, ite_false, reduceIte, Bool.false_eq_true, decide_eq_true_eq, Bool.not_true, Bool.not_false, Nat.zero_add, true_and, and_true, false_and, and_false, and_self, Bool.xor_false, Bool.false_xor, Bool.true_xor, Bool.xor_true, get_new, set_new, get_new1, set_new1, le_0, le_1, le_2, le_3, le_4, le_5, le_6, le_7, le_8, cIn_one, cEq_int, cEq_str, cEq_bl])
  obtain ⟨σ', G', G0, m', e1, ⟨e, acc, s, rfl, rfl, he, _, hw, _⟩, e2⟩ := W
  have fin : ¬ e < line.length ∧ G' = G ++ [.lst (acc.map tokD)] := by
    by_cases h : e < line.length
    · simp only [S_tokens_1, S_tokens_2, C_tokens_4, S_tokens_5, S_tokens_7, S_tokens_8, S_tokens_9, S_tokens_4, W_tokens_3, L_tokens_3, S_tokens_3, S_tokens_10, Int.ofNat_lt, h, hll, decide_true, runF, sSeq, sAsg, sSetI, sIf, sRet, sRetN, sExp, sBrk, sCont, sNil, sFor, sAug, sAsgG, asgR, gN, gT, gsCons, gsNil, iSeqL, iSeqT, iRg1, iRg2, eBin, eUn, eVar, eCst, eApp, eCall, eTup, eLst, eNew, eSl, oSome, oNone, aCons, aNil, dT, dAnd, dOr, dNot, eAnd, eOr, eNot, eIf, truth, eMt, isLst, isStr, seqOf, lstOf, setI, bIx, bAdd, bSub, bNeg, bIadd, cLt, cLe, cGt, cGe, cIsN, fLen, fMax, fMin, fAbs, fInt, fStr, fTuple, fList, mAppend, bSl, bindE_ok, bindE_exc, bindE_bad, bindS_ok, bindS_exc, bindS_bad, seqR_nx, seqR_ret, seqR_brk, seqR_cont, seqR_exc, seqR_bad, turnR_nx, turnR_ret, turnR_brk, turnR_cont, turnR_exc, turnR_bad, atI_0, atI_1, atI_lit, atI_natC, ixN_0, ixN_1, ixN_nat, List.map_cons, List.map_nil, List.length_cons, List.length_nil, List.length_map, List.cons_append, List.nil_append, List.replicate, List.getElem?_cons_zero, List.getElem?_cons_succ, List.set_cons_zero, List.set_cons_succ, List.length_set, Option.isSome_some, Nat.sub_self, Nat.reduceAdd, Nat.reduceSub, Nat.reduceLT, if_true, if_false, ite_true, ite_false, reduceIte, Bool.false_eq_true, decide_eq_true_eq, Bool.not_true, Bool.not_false, Nat.zero_add, true_and, and_true, false_and, and_false, and_self, Bool.xor_false, Bool.false_xor, Bool.true_xor, Bool.xor_true, get_new, set_new, get_new1, set_new1, le_0, le_1, le_2, le_3, le_4, le_5, le_6, le_7, le_8, cIn_one, cEq_int, cEq_str, cEq_bl] at e2
      injection e2 with e2 e3
      cases e2
    · simp only [S_tokens_1, S_tokens_2, C_tokens_4, S_tokens_5, S_tokens_7, S_tokens_8, S_tokens_9, S_tokens_4, W_tokens_3, L_tokens_3, S_tokens_3, S_tokens_10, Int.ofNat_lt, h, hll, decide_false, runF, sSeq, sAsg, sSetI, sIf, sRet, sRetN, sExp, sBrk, sCont, sNil, sFor, sAug, sAsgG, asgR, gN, gT, gsCons, gsNil, iSeqL, iSeqT, iRg1, iRg2, eBin, eUn, eVar, eCst, eApp, eCall, eTup, eLst, eNew, eSl, oSome, oNone, aCons, aNil, dT, dAnd, dOr, dNot, eAnd, eOr, eNot, eIf, truth, eMt, isLst, isStr, seqOf, lstOf, setI, bIx, bAdd, bSub, bNeg, bIadd, cLt, cLe, cGt, cGe, cIsN, fLen, fMax, fMin, fAbs, fInt, fStr, fTuple, fList, mAppend, bSl, bindE_ok, bindE_exc, bindE_bad, bindS_ok, bindS_exc, bindS_bad, seqR_nx, seqR_ret, seqR_brk, seqR_cont, seqR_exc, seqR_bad, turnR_nx, turnR_ret, turnR_brk, turnR_cont, turnR_exc, turnR_bad, atI_0, atI_1, atI_lit, atI_natC, ixN_0, ixN_1, ixN_nat, List.map_cons, List.map_nil, List.length_cons, List.length_nil, List.length_map, List.cons_append, List.nil_append, List.replicate, List.getElem?_cons_zero, List.getElem?_cons_succ, List.set_cons_zero, List.set_cons_succ, List.length_set, Option.isSome_some, Nat.sub_self, Nat.reduceAdd, Nat.reduceSub, Nat.reduceLT, if_true, if_false, ite_true, ite_false, reduceIte, Bool.false_eq_true, decide_eq_true_eq, Bool.not_true, Bool.not_false, Nat.zero_add, true_and, and_true, false_and, and_false, and_self, Bool.xor_false, Bool.false_xor, Bool.true_xor, Bool.xor_true, get_new, set_new, get_new1, set_new1, le_0, le_1, le_2, le_3, le_4, le_5, le_6, le_7, le_8, cIn_one, cEq_int, cEq_str, cEq_bl] at e2
      injection e2 with e2 e3
      exact ⟨h, e3.symm⟩
  obtain ⟨f1, rfl⟩ := fin
  rw [List.drop_eq_nil_of_le (by omega), toks_nil, List.append_nil] at hw
  subst hw
  simp only [S_tokens_1, S_tokens_2, C_tokens_4, S_tokens_5, S_tokens_7, S_tokens_8, S_tokens_9, S_tokens_4, S_tokens_3, S_tokens_10, B_tokens, F_tokens, e1, runF, sSeq, sAsg, sSetI, sIf, sRet, sRetN, sExp, sBrk, sCont, sNil, sFor, sAug, sAsgG, asgR, gN, gT, gsCons, gsNil, iSeqL, iSeqT, iRg1, iRg2, eBin, eUn, eVar, eCst, eApp, eCall, eTup, eLst, eNew, eSl, oSome, oNone, aCons, aNil, dT, dAnd, dOr, dNot, eAnd, eOr, eNot, eIf, truth, eMt, isLst, isStr, seqOf, lstOf, setI, bIx, bAdd, bSub, bNeg, bIadd, cLt, cLe, cGt, cGe, cIsN, fLen, fMax, fMin, fAbs, fInt, fStr, fTuple, fList, mAppend, bSl, bindE_ok, bindE_exc, bindE_bad, bindS_ok, bindS_exc, bindS_bad, seqR_nx, seqR_ret, seqR_brk, seqR_cont, seqR_exc, seqR_bad, turnR_nx, turnR_ret, turnR_brk, turnR_cont, turnR_exc, turnR_bad, atI_0, atI_1, atI_lit, atI_natC, ixN_0, ixN_1, ixN_nat, List.map_cons, List.map_nil, List.length_cons, List.length_nil, List.length_map, List.cons_append, List.nil_append, List.replicate, List.getElem?_cons_zero, List.getElem?_cons_succ, List.set_cons_zero, List.set_cons_succ, List.length_set, Option.isSome_some, Nat.sub_self, Nat.reduceAdd, Nat.reduceSub, Nat.reduceLT, if_true, if_false, ite_true, ite_false, reduceIte, Bool.false_eq_true, decide_eq_true_eq, Bool.not_true, Bool.not_false, Nat.zero_add, true_and, and_true, false_and, and_false, and_self, Bool.xor_false, Bool.false_xor, Bool.true_xor, Bool.xor_true, get_new, set_new, get_new1, set_new1, le_0, le_1, le_2, le_3, le_4, le_5, le_6, le_7, le_8, cIn_one, cEq_int, cEq_str, cEq_bl]
  exact finish_ref0 (nrDs_all.mpr fun d hd => by
    obtain ⟨t, _, rfl⟩ := List.mem_map.mp hd; rfl)

/-! ## the law -/
theorem lit_LT : LT = List.range' 97 26 := by decide +kernel
theorem lit_DG : DG = List.range' 48 10 := by decide +kernel
theorem mem_LT {c : Nat} : c ∈ LT ↔ 97 ≤ c ∧ c < 123 := by rw [lit_LT, List.mem_range'_1]
theorem mem_DG {c : Nat} : c ∈ DG ↔ 48 ≤ c ∧ c < 58 := by rw [lit_DG, List.mem_range'_1]
/-- a token as the law makes it -/
def TokOk (t : List Nat) : Prop := t ≠ [] ∧ t.length ≤ 15 ∧ ((∀ c ∈ t, c ∈ LT) ∨ (∀ c ∈ t, c ∈ DG) ∨ ∃ c, t = [c] ∧ ¬ c ∈ LT ∧ ¬ c ∈ DG ∧ c ≠ 32)
def sortM (t : List Nat) : Int := if t.headD 0 ∈ DG then 1 else if t.headD 0 ∈ LT then 2 else 0
theorem sort_eq {t : List Nat} {G : GS} (h : TokOk t) : F__law_sort [.str t] G = .ok (.int (sortM t)) G := by
  obtain ⟨h0, h1, _⟩ := h
  cases t with
  | nil => exact absurd rfl h0
  | cons c r =>
    have hll : r.length + 1 ≤ maxLine := by rw [List.length_cons] at h1; unfold maxLine; omega
    have k1 : c ∈ LT ↔ c ∈ lit "abcdefghijklmnopqrstuvwxyz" := Iff.rfl
    have k2 : c ∈ DG ↔ c ∈ lit "0123456789" := Iff.rfl
    unfold sortM
    by_cases h2 : c ∈ lit "0123456789" <;> by_cases h3 : c ∈ lit "abcdefghijklmnopqrstuvwxyz" <;>
    · simp only [C__law_sort_1, S__law_sort_2, S__law_sort_1, S__law_sort_3, B__law_sort, F__law_sort, hll, List.headD_cons, k1, k2, h2, h3, mulL 2 _ (by omega), decide_true, decide_false, runF, sSeq, sAsg, sSetI, sIf, sRet, sRetN, sExp, sBrk, sCont, sNil, sFor, sAug, sAsgG, asgR, gN, gT, gsCons, gsNil, iSeqL, iSeqT, iRg1, iRg2, eBin, eUn, eVar, eCst, eApp, eCall, eTup, eLst, eNew, eSl, oSome, oNone, aCons, aNil, dT, dAnd, dOr, dNot, eAnd, eOr, eNot, eIf, truth, eMt, isLst, isStr, seqOf, lstOf, setI, bIx, bAdd, bSub, bNeg, bIadd, cLt, cLe, cGt, cGe, cIsN, fLen, fMax, fMin, fAbs, fInt, fStr, fTuple, fList, mAppend, bSl, bindE_ok, bindE_exc, bindE_bad, bindS_ok, bindS_exc, bindS_bad, seqR_nx, seqR_ret, seqR_brk, seqR_cont, seqR_exc, seqR_bad, turnR_nx, turnR_ret, turnR_brk, turnR_cont, turnR_exc, turnR_bad, atI_0, atI_1, atI_lit, atI_natC, ixN_0, ixN_1, ixN_nat, List.map_cons, List.map_nil, List.length_cons, List.length_nil, List.length_map, List.cons_append, List.nil_append, List.replicate, List.getElem?_cons_zero, List.getElem?_cons_succ, List.set_cons_zero, List.set_cons_succ, List.length_set, Option.isSome_some, Nat.sub_self, Nat.reduceAdd, Nat.reduceSub, Nat.reduceLT, if_true, if_false, ite_true, ite_false, reduceIte, Bool.false_eq_true, decide_eq_true_eq, Bool.not_true, Bool.not_false, Nat.zero_add, true_and, and_true, false_and, and_false, and_self, Bool.xor_false, Bool.false_xor, Bool.true_xor, Bool.xor_true, get_new, set_new, get_new1, set_new1, le_0, le_1, le_2, le_3, le_4, le_5, le_6, le_7, le_8, cIn_one, cEq_int, cEq_str, cEq_bl]
      exact finish_same rfl
theorem not_sign {c : Nat} (h : c ∈ LT ∨ c ∈ DG) : ¬ c ∈ lit ":,;" := by
  have e : lit ":,;" = [58, 44, 59] := by decide +kernel
  rw [e]
  rcases h with h | h
  · rw [mem_LT] at h; simp; omega
  · rw [mem_DG] at h; simp; omega
theorem apart {c : Nat} (h : c ∈ LT) : ¬ c ∈ DG := fun z => by rw [mem_LT] at h; rw [mem_DG] at z; omega
theorem kind_name {t : List Nat} (h0 : t ≠ []) (h : ∀ c ∈ t, c ∈ LT) : kindM t = if 12 < t.length then lit "bad" else lit "name" := by
  cases t with
  | nil => exact absurd rfl h0
  | cons c r =>
    have hc : c ∈ LT := h c List.mem_cons_self
    unfold kindM
    rw [List.headD_cons]
    by_cases hl : (c :: r).length ≤ 12
    · rw [if_pos ⟨hc, hl⟩, if_neg (Nat.not_lt.mpr hl)]
    · rw [if_neg (fun z => hl z.2), if_neg (fun z => apart hc z.1), subS_false (not_sign (.inl hc)), if_neg Bool.false_ne_true, if_pos (Nat.lt_of_not_le hl)]
theorem lit_0 : lit "0" = [48] := by decide +kernel
theorem kind_number {t : List Nat} (h0 : t ≠ []) (h : ∀ c ∈ t, c ∈ DG) : kindM t = if 4 < t.length ∨ (1 < t.length ∧ t.take 1 = [48]) then lit "bad" else lit "number" := by
  cases t with
  | nil => exact absurd rfl h0
  | cons c r =>
    have hc : c ∈ DG := h c List.mem_cons_self
    unfold kindM
    rw [List.headD_cons, if_neg (fun z => apart z.1 hc), subS_false (not_sign (.inr hc))]
    by_cases q : 4 < (c :: r).length ∨ (1 < (c :: r).length ∧ (c :: r).take 1 = [48])
    · have : numM (c :: r) = false := by
        unfold numM
        rw [lit_0]
        rcases q with q | ⟨q1, q2⟩
        · rw [decide_eq_false (Nat.not_le.mpr q)]; rfl
        · have hne : ¬ c :: r = [48] := fun z => by rw [z] at q1; simp at q1
          rw [decide_eq_true q2, decide_eq_false hne]; simp
      rw [if_neg (fun z => by rw [this] at z; exact Bool.false_ne_true z.2), if_pos q, if_neg Bool.false_ne_true]
    · have : numM (c :: r) = true := by
        unfold numM
        rw [lit_0, decide_eq_true (Nat.le_of_not_lt fun z => q (.inl z))]
        by_cases q2 : (c :: r).take 1 = [48]
        · have hl : ¬ 1 < (c :: r).length := fun z => q (.inr ⟨z, q2⟩)
          cases r with
          | nil =>
            have : c = 48 := by simpa using q2
            subst this; simp
          | cons _ _ => simp at hl
        · rw [decide_eq_false q2]; simp
      rw [if_pos ⟨hc, this⟩, if_neg q]
theorem kind_one {c : Nat} (h1 : ¬ c ∈ LT) (h2 : ¬ c ∈ DG) : kindM [c] = if c ∈ lit ":,;" then lit "sign" else lit "bad" := by
  unfold kindM
  rw [List.headD_cons, if_neg (fun z => h1 z.1), if_neg (fun z => h2 z.1), subS_one]
  by_cases h : c ∈ lit ":,;"
  · rw [decide_eq_true h, if_pos rfl, if_pos h]
  · rw [decide_eq_false h, if_neg Bool.false_ne_true, if_neg h]
theorem len_LT : (lit "abcdefghijklmnopqrstuvwxyz").length = 26 := by decide +kernel
theorem len_DG : (lit "0123456789").length = 10 := by decide +kernel
/-- the pick of a sign out of a written text -/
theorem pick_eq {x : Str} {ds : List Int} {a : Nat} {n : Int} {G : GS} (hn : n ≤ (lit x).length) (hm : (lit x).length ≤ 1000) (h0 : 0 < n) : ∃ c, c ∈ lit x ∧ bIx (.str (lit x)) (.int (drawV ds a n)) G = .ok (.str [c]) G := by
  have rg := draw_range ds a h0
  have hx : (drawV ds a n).toNat < (lit x).length := by omega
  refine ⟨(lit x)[(drawV ds a n).toNat], List.getElem_mem _, ?_⟩
  have hll : (lit x).length ≤ maxLine := by unfold maxLine; omega
  simp only [bIx, hll, if_true, atI_toNat _ rg.1, List.getElem?_eq_getElem hx]
theorem len_AB : (lit "ABZ!#$&'()*+-./<=>?\x40[\\]^_`{|}~\"").length = 31 := by decide +kernel
theorem mem_AB : ∀ c ∈ lit "ABZ!#$&'()*+-./<=>?\x40[\\]^_`{|}~\"", ¬ c ∈ LT ∧ ¬ c ∈ DG ∧ ¬ c ∈ lit ":,;" ∧ c ≠ 32 := by decide +kernel
theorem len_SG : (lit ":,;").length = 3 := by decide +kernel
theorem mem_SG : ∀ c ∈ lit ":,;", ¬ c ∈ LT ∧ ¬ c ∈ DG ∧ c ≠ 32 := by decide +kernel
theorem tk1 {ds : List Int} {a : Nat} {G : GS} : S__law_token_1 [some (.ref 0), none, none] (box ds a :: G) = .nx [some (.ref 0), some (.int (drawV ds a 5)), none] (box ds (a + 1) :: G) := by
  simp only [S__law_token_1, draw_eq (m := 5) (by omega), runF, sSeq, sAsg, sSetI, sIf, sRet, sRetN, sExp, sBrk, sCont, sNil, sFor, sAug, sAsgG, asgR, gN, gT, gsCons, gsNil, iSeqL, iSeqT, iRg1, iRg2, eBin, eUn, eVar, eCst, eApp, eCall, eTup, eLst, eNew, eSl, oSome, oNone, aCons, aNil, dT, dAnd, dOr, dNot, eAnd, eOr, eNot, eIf, truth, eMt, isLst, isStr, seqOf, lstOf, setI, bIx, bAdd, bSub, bNeg, bIadd, cLt, cLe, cGt, cGe, cIsN, fLen, fMax, fMin, fAbs, fInt, fStr, fTuple, fList, mAppend, bSl, bindE_ok, bindE_exc, bindE_bad, bindS_ok, bindS_exc, bindS_bad, seqR_nx, seqR_ret, seqR_brk, seqR_cont, seqR_exc, seqR_bad, turnR_nx, turnR_ret, turnR_brk, turnR_cont, turnR_exc, turnR_bad, atI_0, atI_1, atI_lit, atI_natC, ixN_0, ixN_1, ixN_nat, List.map_cons, List.map_nil, List.length_cons, List.length_nil, List.length_map, List.cons_append, List.nil_append, List.replicate, List.getElem?_cons_zero, List.getElem?_cons_succ, List.set_cons_zero, List.set_cons_succ, List.length_set, Option.isSome_some, Nat.sub_self, Nat.reduceAdd, Nat.reduceSub, Nat.reduceLT, if_true, if_false, ite_true, ite_false, reduceIte, Bool.false_eq_true, decide_eq_true_eq, Bool.not_true, Bool.not_false, Nat.zero_add, true_and, and_true, false_and, and_false, and_self, Bool.xor_false, Bool.false_xor, Bool.true_xor, Bool.xor_true, get_new, set_new, get_new1, set_new1, le_0, le_1, le_2, le_3, le_4, le_5, le_6, le_7, le_8, cIn_one, cEq_int, cEq_str, cEq_bl]
theorem tk3 {ds : List Int} {a : Nat} {k : Int} {G : GS} : ∃ (t : List Nat) (a' : Nat), S__law_token_3 [some (.ref 0), some (.int k), none] (box ds a :: G) = .nx [some (.ref 0), some (.int k), some (.str t)] (box ds a' :: G) ∧ t ≠ [] ∧ t.length ≤ 15 ∧ ∀ c ∈ t, c ∈ LT := by
  have r2 := draw_range ds a (m := 2) (by omega)
  have go : ∀ (m : Int), 0 < m → m ≤ 15 → ∃ (t : List Nat) (n : Nat), F__law_run [.ref 0, .int (1 + drawV ds (a + 1) m), .str (lit "abcdefghijklmnopqrstuvwxyz")] (box ds (a + 1 + 1) :: G) = .ok (.str t) (box ds (a + 1 + 1 + n) :: G) ∧ t ≠ [] ∧ t.length ≤ 15 ∧ ∀ c ∈ t, c ∈ LT := fun m h0 h1 => by
    have r3 := draw_range ds (a + 1) h0
    obtain ⟨t, er, ht, hc⟩ := run_eq (ds := ds) (a := a + 1 + 1) (n := (1 + drawV ds (a + 1) m).toNat) (cs := lit "abcdefghijklmnopqrstuvwxyz") (G := G) (by omega) (by rw [← List.length_pos_iff, len_LT]; decide) (by rw [len_LT]; decide)
    rw [Int.toNat_of_nonneg (by omega)] at er
    exact ⟨t, _, er, fun z => by rw [z] at ht; simp at ht; omega, by omega, hc⟩
  by_cases h2 : drawV ds a 2 = 0
  · obtain ⟨t, n, er, h⟩ := go 4 (by omega) (by omega)
    refine ⟨t, a + 1 + 1 + n, ?_, h⟩
    simp only [S__law_token_3, draw_eq (m := 2) (by omega), draw_eq (m := 4) (by omega), h2, er, runF, sSeq, sAsg, sSetI, sIf, sRet, sRetN, sExp, sBrk, sCont, sNil, sFor, sAug, sAsgG, asgR, gN, gT, gsCons, gsNil, iSeqL, iSeqT, iRg1, iRg2, eBin, eUn, eVar, eCst, eApp, eCall, eTup, eLst, eNew, eSl, oSome, oNone, aCons, aNil, dT, dAnd, dOr, dNot, eAnd, eOr, eNot, eIf, truth, eMt, isLst, isStr, seqOf, lstOf, setI, bIx, bAdd, bSub, bNeg, bIadd, cLt, cLe, cGt, cGe, cIsN, fLen, fMax, fMin, fAbs, fInt, fStr, fTuple, fList, mAppend, bSl, bindE_ok, bindE_exc, bindE_bad, bindS_ok, bindS_exc, bindS_bad, seqR_nx, seqR_ret, seqR_brk, seqR_cont, seqR_exc, seqR_bad, turnR_nx, turnR_ret, turnR_brk, turnR_cont, turnR_exc, turnR_bad, atI_0, atI_1, atI_lit, atI_natC, ixN_0, ixN_1, ixN_nat, List.map_cons, List.map_nil, List.length_cons, List.length_nil, List.length_map, List.cons_append, List.nil_append, List.replicate, List.getElem?_cons_zero, List.getElem?_cons_succ, List.set_cons_zero, List.set_cons_succ, List.length_set, Option.isSome_some, Nat.sub_self, Nat.reduceAdd, Nat.reduceSub, Nat.reduceLT, if_true, if_false, ite_true, ite_false, reduceIte, Bool.false_eq_true, decide_eq_true_eq, Bool.not_true, Bool.not_false, Nat.zero_add, true_and, and_true, false_and, and_false, and_self, Bool.xor_false, Bool.false_xor, Bool.true_xor, Bool.xor_true, get_new, set_new, get_new1, set_new1, le_0, le_1, le_2, le_3, le_4, le_5, le_6, le_7, le_8, cIn_one, cEq_int, cEq_str, cEq_bl]
  · have h3 : drawV ds a 2 = 1 := by omega
    obtain ⟨t, n, er, h⟩ := go 15 (by omega) (by omega)
    refine ⟨t, a + 1 + 1 + n, ?_, h⟩
    simp only [S__law_token_3, draw_eq (m := 2) (by omega), draw_eq (m := 15) (by omega), h3, er, runF, sSeq, sAsg, sSetI, sIf, sRet, sRetN, sExp, sBrk, sCont, sNil, sFor, sAug, sAsgG, asgR, gN, gT, gsCons, gsNil, iSeqL, iSeqT, iRg1, iRg2, eBin, eUn, eVar, eCst, eApp, eCall, eTup, eLst, eNew, eSl, oSome, oNone, aCons, aNil, dT, dAnd, dOr, dNot, eAnd, eOr, eNot, eIf, truth, eMt, isLst, isStr, seqOf, lstOf, setI, bIx, bAdd, bSub, bNeg, bIadd, cLt, cLe, cGt, cGe, cIsN, fLen, fMax, fMin, fAbs, fInt, fStr, fTuple, fList, mAppend, bSl, bindE_ok, bindE_exc, bindE_bad, bindS_ok, bindS_exc, bindS_bad, seqR_nx, seqR_ret, seqR_brk, seqR_cont, seqR_exc, seqR_bad, turnR_nx, turnR_ret, turnR_brk, turnR_cont, turnR_exc, turnR_bad, atI_0, atI_1, atI_lit, atI_natC, ixN_0, ixN_1, ixN_nat, List.map_cons, List.map_nil, List.length_cons, List.length_nil, List.length_map, List.cons_append, List.nil_append, List.replicate, List.getElem?_cons_zero, List.getElem?_cons_succ, List.set_cons_zero, List.set_cons_succ, List.length_set, Option.isSome_some, Nat.sub_self, Nat.reduceAdd, Nat.reduceSub, Nat.reduceLT, if_true, if_false, ite_true, ite_false, reduceIte, Bool.false_eq_true, decide_eq_true_eq, Bool.not_true, Bool.not_false, Nat.zero_add, true_and, and_true, false_and, and_false, and_self, Bool.xor_false, Bool.false_xor, Bool.true_xor, Bool.xor_true, get_new, set_new, get_new1, set_new1, le_0, le_1, le_2, le_3, le_4, le_5, le_6, le_7, le_8, cIn_one, cEq_int, cEq_str, cEq_bl]
theorem tk6 {ds : List Int} {a : Nat} {k : Int} {G : GS} : ∃ (t : List Nat) (a' : Nat), S__law_token_6 [some (.ref 0), some (.int k), none] (box ds a :: G) = .nx [some (.ref 0), some (.int k), some (.str t)] (box ds a' :: G) ∧ t ≠ [] ∧ t.length ≤ 15 ∧ ∀ c ∈ t, c ∈ DG := by
  have r3 := draw_range ds a (m := 6) (by omega)
  obtain ⟨t, er, ht, hc⟩ := run_eq (ds := ds) (a := a + 1) (n := (1 + drawV ds a 6).toNat) (cs := lit "0123456789") (G := G) (by omega) (by rw [← List.length_pos_iff, len_DG]; decide) (by rw [len_DG]; decide)
  rw [Int.toNat_of_nonneg (by omega)] at er
  refine ⟨t, a + 1 + (1 + drawV ds a 6).toNat, ?_, fun z => by rw [z] at ht; simp at ht; omega, by omega, hc⟩
  simp only [S__law_token_6, draw_eq (m := 6) (by omega), er, runF, sSeq, sAsg, sSetI, sIf, sRet, sRetN, sExp, sBrk, sCont, sNil, sFor, sAug, sAsgG, asgR, gN, gT, gsCons, gsNil, iSeqL, iSeqT, iRg1, iRg2, eBin, eUn, eVar, eCst, eApp, eCall, eTup, eLst, eNew, eSl, oSome, oNone, aCons, aNil, dT, dAnd, dOr, dNot, eAnd, eOr, eNot, eIf, truth, eMt, isLst, isStr, seqOf, lstOf, setI, bIx, bAdd, bSub, bNeg, bIadd, cLt, cLe, cGt, cGe, cIsN, fLen, fMax, fMin, fAbs, fInt, fStr, fTuple, fList, mAppend, bSl, bindE_ok, bindE_exc, bindE_bad, bindS_ok, bindS_exc, bindS_bad, seqR_nx, seqR_ret, seqR_brk, seqR_cont, seqR_exc, seqR_bad, turnR_nx, turnR_ret, turnR_brk, turnR_cont, turnR_exc, turnR_bad, atI_0, atI_1, atI_lit, atI_natC, ixN_0, ixN_1, ixN_nat, List.map_cons, List.map_nil, List.length_cons, List.length_nil, List.length_map, List.cons_append, List.nil_append, List.replicate, List.getElem?_cons_zero, List.getElem?_cons_succ, List.set_cons_zero, List.set_cons_succ, List.length_set, Option.isSome_some, Nat.sub_self, Nat.reduceAdd, Nat.reduceSub, Nat.reduceLT, if_true, if_false, ite_true, ite_false, reduceIte, Bool.false_eq_true, decide_eq_true_eq, Bool.not_true, Bool.not_false, Nat.zero_add, true_and, and_true, false_and, and_false, and_self, Bool.xor_false, Bool.false_xor, Bool.true_xor, Bool.xor_true, get_new, set_new, get_new1, set_new1, le_0, le_1, le_2, le_3, le_4, le_5, le_6, le_7, le_8, cIn_one, cEq_int, cEq_str, cEq_bl]
theorem tk4 {t : List Nat} {x : Option D} {G : GS} (h0 : t ≠ []) (h1 : t.length ≤ 15) (h : ∀ c ∈ t, c ∈ LT) : S__law_token_4 [some (.ref 0), x, some (.str t)] G = .ret (.lst [.str (kindM t), .str t]) G := by
  have hl : t.length ≤ maxLine := by unfold maxLine; omega
  rw [kind_name h0 h]
  by_cases q : 12 < t.length
  · have q' : (12 : Int) < (t.length : Int) := by omega
    simp only [S__law_token_4, hl, q, q', decide_true, runF, sSeq, sAsg, sSetI, sIf, sRet, sRetN, sExp, sBrk, sCont, sNil, sFor, sAug, sAsgG, asgR, gN, gT, gsCons, gsNil, iSeqL, iSeqT, iRg1, iRg2, eBin, eUn, eVar, eCst, eApp, eCall, eTup, eLst, eNew, eSl, oSome, oNone, aCons, aNil, dT, dAnd, dOr, dNot, eAnd, eOr, eNot, eIf, truth, eMt, isLst, isStr, seqOf, lstOf, setI, bIx, bAdd, bSub, bNeg, bIadd, cLt, cLe, cGt, cGe, cIsN, fLen, fMax, fMin, fAbs, fInt, fStr, fTuple, fList, mAppend, bSl, bindE_ok, bindE_exc, bindE_bad, bindS_ok, bindS_exc, bindS_bad, seqR_nx, seqR_ret, seqR_brk, seqR_cont, seqR_exc, seqR_bad, turnR_nx, turnR_ret, turnR_brk, turnR_cont, turnR_exc, turnR_bad, atI_0, atI_1, atI_lit, atI_natC, ixN_0, ixN_1, ixN_nat, List.map_cons, List.map_nil, List.length_cons, List.length_nil, List.length_map, List.cons_append, List.nil_append, List.replicate, List.getElem?_cons_zero, List.getElem?_cons_succ, List.set_cons_zero, List.set_cons_succ, List.length_set, Option.isSome_some, Nat.sub_self, Nat.reduceAdd, Nat.reduceSub, Nat.reduceLT, if_true, if_false, ite_true, ite_false, reduceIte, Bool.false_eq_true, decide_eq_true_eq, Bool.not_true, Bool.not_false, Nat.zero_add, true_and, and_true, false_and, and_false, and_self, Bool.xor_false, Bool.false_xor, Bool.true_xor, Bool.xor_true, get_new, set_new, get_new1, set_new1, le_0, le_1, le_2, le_3, le_4, le_5, le_6, le_7, le_8, cIn_one, cEq_int, cEq_str, cEq_bl]
  · have q' : ¬ (12 : Int) < (t.length : Int) := by omega
    simp only [S__law_token_4, hl, q, q', decide_false, runF, sSeq, sAsg, sSetI, sIf, sRet, sRetN, sExp, sBrk, sCont, sNil, sFor, sAug, sAsgG, asgR, gN, gT, gsCons, gsNil, iSeqL, iSeqT, iRg1, iRg2, eBin, eUn, eVar, eCst, eApp, eCall, eTup, eLst, eNew, eSl, oSome, oNone, aCons, aNil, dT, dAnd, dOr, dNot, eAnd, eOr, eNot, eIf, truth, eMt, isLst, isStr, seqOf, lstOf, setI, bIx, bAdd, bSub, bNeg, bIadd, cLt, cLe, cGt, cGe, cIsN, fLen, fMax, fMin, fAbs, fInt, fStr, fTuple, fList, mAppend, bSl, bindE_ok, bindE_exc, bindE_bad, bindS_ok, bindS_exc, bindS_bad, seqR_nx, seqR_ret, seqR_brk, seqR_cont, seqR_exc, seqR_bad, turnR_nx, turnR_ret, turnR_brk, turnR_cont, turnR_exc, turnR_bad, atI_0, atI_1, atI_lit, atI_natC, ixN_0, ixN_1, ixN_nat, List.map_cons, List.map_nil, List.length_cons, List.length_nil, List.length_map, List.cons_append, List.nil_append, List.replicate, List.getElem?_cons_zero, List.getElem?_cons_succ, List.set_cons_zero, List.set_cons_succ, List.length_set, Option.isSome_some, Nat.sub_self, Nat.reduceAdd, Nat.reduceSub, Nat.reduceLT, if_true, if_false, ite_true, ite_false, reduceIte, Bool.false_eq_true, decide_eq_true_eq, Bool.not_true, Bool.not_false, Nat.zero_add, true_and, and_true, false_and, and_false, and_self, Bool.xor_false, Bool.false_xor, Bool.true_xor, Bool.xor_true, get_new, set_new, get_new1, set_new1, le_0, le_1, le_2, le_3, le_4, le_5, le_6, le_7, le_8, cIn_one, cEq_int, cEq_str, cEq_bl]
theorem tk7 {t : List Nat} {x : Option D} {G : GS} (h0 : t ≠ []) (h1 : t.length ≤ 15) (h : ∀ c ∈ t, c ∈ DG) : S__law_token_7 [some (.ref 0), x, some (.str t)] G = .ret (.lst [.str (kindM t), .str t]) G := by
  cases t with
  | nil => exact absurd rfl h0
  | cons c r =>
    have hl : r.length + 1 ≤ maxLine := by rw [List.length_cons] at h1; unfold maxLine; omega
    rw [kind_number h0 h]
    have q4 : ((4 : Int) < ((r.length + 1 : Nat) : Int)) ↔ 4 < r.length + 1 := by omega
    have q1 : ((1 : Int) < ((r.length + 1 : Nat) : Int)) ↔ 1 < r.length + 1 := by omega
    have tk : (c :: r).take 1 = [c] := rfl
    rw [tk]
    rw [List.length_cons]
    by_cases a1 : 4 < r.length + 1 <;> by_cases a2 : 1 < r.length + 1 <;> by_cases a3 : [c] = [48] <;>
    · simp only [S__law_token_7, lit_0, hl, q4, q1, a1, a2, a3, decide_true, decide_false, true_or, or_true, false_or, or_false, runF, sSeq, sAsg, sSetI, sIf, sRet, sRetN, sExp, sBrk, sCont, sNil, sFor, sAug, sAsgG, asgR, gN, gT, gsCons, gsNil, iSeqL, iSeqT, iRg1, iRg2, eBin, eUn, eVar, eCst, eApp, eCall, eTup, eLst, eNew, eSl, oSome, oNone, aCons, aNil, dT, dAnd, dOr, dNot, eAnd, eOr, eNot, eIf, truth, eMt, isLst, isStr, seqOf, lstOf, setI, bIx, bAdd, bSub, bNeg, bIadd, cLt, cLe, cGt, cGe, cIsN, fLen, fMax, fMin, fAbs, fInt, fStr, fTuple, fList, mAppend, bSl, bindE_ok, bindE_exc, bindE_bad, bindS_ok, bindS_exc, bindS_bad, seqR_nx, seqR_ret, seqR_brk, seqR_cont, seqR_exc, seqR_bad, turnR_nx, turnR_ret, turnR_brk, turnR_cont, turnR_exc, turnR_bad, atI_0, atI_1, atI_lit, atI_natC, ixN_0, ixN_1, ixN_nat, List.map_cons, List.map_nil, List.length_cons, List.length_nil, List.length_map, List.cons_append, List.nil_append, List.replicate, List.getElem?_cons_zero, List.getElem?_cons_succ, List.set_cons_zero, List.set_cons_succ, List.length_set, Option.isSome_some, Nat.sub_self, Nat.reduceAdd, Nat.reduceSub, Nat.reduceLT, if_true, if_false, ite_true, ite_false, reduceIte, Bool.false_eq_true, decide_eq_true_eq, Bool.not_true, Bool.not_false, Nat.zero_add, true_and, and_true, false_and, and_false, and_self, Bool.xor_false, Bool.false_xor, Bool.true_xor, Bool.xor_true, get_new, set_new, get_new1, set_new1, le_0, le_1, le_2, le_3, le_4, le_5, le_6, le_7, le_8, cIn_one, cEq_int, cEq_str, cEq_bl]
theorem token_eq {ds : List Int} {a : Nat} {G : GS} : ∃ (t : List Nat) (a' : Nat), F__law_token [.ref 0] (box ds a :: G) = .ok (.lst [.str (kindM t), .str t]) (box ds a' :: G) ∧ TokOk t := by
  have rk := draw_range ds a (m := 5) (by omega)
  by_cases hk : drawV ds a 5 < 2
  · obtain ⟨t, a', e3, h0, h1, h2⟩ := tk3 (ds := ds) (a := a + 1) (k := drawV ds a 5) (G := G)
    refine ⟨t, a', ?_, h0, h1, .inl h2⟩
    have c2 : C__law_token_2 [some (.ref 0), some (.int (drawV ds a 5)), none] (box ds (a + 1) :: G) = .ok true (box ds (a + 1) :: G) := by
      simp only [C__law_token_2, hk, decide_true, runF, sSeq, sAsg, sSetI, sIf, sRet, sRetN, sExp, sBrk, sCont, sNil, sFor, sAug, sAsgG, asgR, gN, gT, gsCons, gsNil, iSeqL, iSeqT, iRg1, iRg2, eBin, eUn, eVar, eCst, eApp, eCall, eTup, eLst, eNew, eSl, oSome, oNone, aCons, aNil, dT, dAnd, dOr, dNot, eAnd, eOr, eNot, eIf, truth, eMt, isLst, isStr, seqOf, lstOf, setI, bIx, bAdd, bSub, bNeg, bIadd, cLt, cLe, cGt, cGe, cIsN, fLen, fMax, fMin, fAbs, fInt, fStr, fTuple, fList, mAppend, bSl, bindE_ok, bindE_exc, bindE_bad, bindS_ok, bindS_exc, bindS_bad, seqR_nx, seqR_ret, seqR_brk, seqR_cont, seqR_exc, seqR_bad, turnR_nx, turnR_ret, turnR_brk, turnR_cont, turnR_exc, turnR_bad, atI_0, atI_1, atI_lit, atI_natC, ixN_0, ixN_1, ixN_nat, List.map_cons, List.map_nil, List.length_cons, List.length_nil, List.length_map, List.cons_append, List.nil_append, List.replicate, List.getElem?_cons_zero, List.getElem?_cons_succ, List.set_cons_zero, List.set_cons_succ, List.length_set, Option.isSome_some, Nat.sub_self, Nat.reduceAdd, Nat.reduceSub, Nat.reduceLT, if_true, if_false, ite_true, ite_false, reduceIte, Bool.false_eq_true, decide_eq_true_eq, Bool.not_true, Bool.not_false, Nat.zero_add, true_and, and_true, false_and, and_false, and_self, Bool.xor_false, Bool.false_xor, Bool.true_xor, Bool.xor_true, get_new, set_new, get_new1, set_new1, le_0, le_1, le_2, le_3, le_4, le_5, le_6, le_7, le_8, cIn_one, cEq_int, cEq_str, cEq_bl]
    simp only [F__law_token, B__law_token, runF, S__law_token_2, sSeq, sIf, tk1, c2, e3, tk4 h0 h1 h2, List.map_cons, List.map_nil, List.length_cons, List.length_nil, List.replicate, List.cons_append, List.nil_append, Nat.reduceAdd, Nat.reduceSub, Nat.zero_add, seqR_nx, seqR_ret, bindS_ok, if_true]
    exact finish_same rfl
  · have c2 : C__law_token_2 [some (.ref 0), some (.int (drawV ds a 5)), none] (box ds (a + 1) :: G) = .ok false (box ds (a + 1) :: G) := by
      simp only [C__law_token_2, hk, decide_false, runF, sSeq, sAsg, sSetI, sIf, sRet, sRetN, sExp, sBrk, sCont, sNil, sFor, sAug, sAsgG, asgR, gN, gT, gsCons, gsNil, iSeqL, iSeqT, iRg1, iRg2, eBin, eUn, eVar, eCst, eApp, eCall, eTup, eLst, eNew, eSl, oSome, oNone, aCons, aNil, dT, dAnd, dOr, dNot, eAnd, eOr, eNot, eIf, truth, eMt, isLst, isStr, seqOf, lstOf, setI, bIx, bAdd, bSub, bNeg, bIadd, cLt, cLe, cGt, cGe, cIsN, fLen, fMax, fMin, fAbs, fInt, fStr, fTuple, fList, mAppend, bSl, bindE_ok, bindE_exc, bindE_bad, bindS_ok, bindS_exc, bindS_bad, seqR_nx, seqR_ret, seqR_brk, seqR_cont, seqR_exc, seqR_bad, turnR_nx, turnR_ret, turnR_brk, turnR_cont, turnR_exc, turnR_bad, atI_0, atI_1, atI_lit, atI_natC, ixN_0, ixN_1, ixN_nat, List.map_cons, List.map_nil, List.length_cons, List.length_nil, List.length_map, List.cons_append, List.nil_append, List.replicate, List.getElem?_cons_zero, List.getElem?_cons_succ, List.set_cons_zero, List.set_cons_succ, List.length_set, Option.isSome_some, Nat.sub_self, Nat.reduceAdd, Nat.reduceSub, Nat.reduceLT, if_true, if_false, ite_true, ite_false, reduceIte, Bool.false_eq_true, decide_eq_true_eq, Bool.not_true, Bool.not_false, Nat.zero_add, true_and, and_true, false_and, and_false, and_self, Bool.xor_false, Bool.false_xor, Bool.true_xor, Bool.xor_true, get_new, set_new, get_new1, set_new1, le_0, le_1, le_2, le_3, le_4, le_5, le_6, le_7, le_8, cIn_one, cEq_int, cEq_str, cEq_bl]
    by_cases hk2 : drawV ds a 5 = 2
    · obtain ⟨t, a', e3, h0, h1, h2⟩ := tk6 (ds := ds) (a := a + 1) (k := drawV ds a 5) (G := G)
      refine ⟨t, a', ?_, h0, h1, .inr (.inl h2)⟩
      have c5 : C__law_token_5 [some (.ref 0), some (.int (drawV ds a 5)), none] (box ds (a + 1) :: G) = .ok true (box ds (a + 1) :: G) := by
        simp only [C__law_token_5, hk2, decide_true, runF, sSeq, sAsg, sSetI, sIf, sRet, sRetN, sExp, sBrk, sCont, sNil, sFor, sAug, sAsgG, asgR, gN, gT, gsCons, gsNil, iSeqL, iSeqT, iRg1, iRg2, eBin, eUn, eVar, eCst, eApp, eCall, eTup, eLst, eNew, eSl, oSome, oNone, aCons, aNil, dT, dAnd, dOr, dNot, eAnd, eOr, eNot, eIf, truth, eMt, isLst, isStr, seqOf, lstOf, setI, bIx, bAdd, bSub, bNeg, bIadd, cLt, cLe, cGt, cGe, cIsN, fLen, fMax, fMin, fAbs, fInt, fStr, fTuple, fList, mAppend, bSl, bindE_ok, bindE_exc, bindE_bad, bindS_ok, bindS_exc, bindS_bad, seqR_nx, seqR_ret, seqR_brk, seqR_cont, seqR_exc, seqR_bad, turnR_nx, turnR_ret, turnR_brk, turnR_cont, turnR_exc, turnR_bad, atI_0, atI_1, atI_lit, atI_natC, ixN_0, ixN_1, ixN_nat, List.map_cons, List.map_nil, List.length_cons, List.length_nil, List.length_map, List.cons_append, List.nil_append, List.replicate, List.getElem?_cons_zero, List.getElem?_cons_succ, List.set_cons_zero, List.set_cons_succ, List.length_set, Option.isSome_some, Nat.sub_self, Nat.reduceAdd, Nat.reduceSub, Nat.reduceLT, if_true, if_false, ite_true, ite_false, reduceIte, Bool.false_eq_true, decide_eq_true_eq, Bool.not_true, Bool.not_false, Nat.zero_add, true_and, and_true, false_and, and_false, and_self, Bool.xor_false, Bool.false_xor, Bool.true_xor, Bool.xor_true, get_new, set_new, get_new1, set_new1, le_0, le_1, le_2, le_3, le_4, le_5, le_6, le_7, le_8, cIn_one, cEq_int, cEq_str, cEq_bl]
      simp only [F__law_token, B__law_token, runF, S__law_token_2, S__law_token_5, sSeq, sIf, sNil, tk1, c2, c5, e3, tk7 h0 h1 h2, List.map_cons, List.map_nil, List.length_cons, List.length_nil, List.replicate, List.cons_append, List.nil_append, Nat.reduceAdd, Nat.reduceSub, Nat.zero_add, seqR_nx, seqR_ret, bindS_ok, if_true, if_false, Bool.false_eq_true]
      exact finish_same rfl
    · have c5 : C__law_token_5 [some (.ref 0), some (.int (drawV ds a 5)), none] (box ds (a + 1) :: G) = .ok false (box ds (a + 1) :: G) := by
        simp only [C__law_token_5, hk2, decide_false, runF, sSeq, sAsg, sSetI, sIf, sRet, sRetN, sExp, sBrk, sCont, sNil, sFor, sAug, sAsgG, asgR, gN, gT, gsCons, gsNil, iSeqL, iSeqT, iRg1, iRg2, eBin, eUn, eVar, eCst, eApp, eCall, eTup, eLst, eNew, eSl, oSome, oNone, aCons, aNil, dT, dAnd, dOr, dNot, eAnd, eOr, eNot, eIf, truth, eMt, isLst, isStr, seqOf, lstOf, setI, bIx, bAdd, bSub, bNeg, bIadd, cLt, cLe, cGt, cGe, cIsN, fLen, fMax, fMin, fAbs, fInt, fStr, fTuple, fList, mAppend, bSl, bindE_ok, bindE_exc, bindE_bad, bindS_ok, bindS_exc, bindS_bad, seqR_nx, seqR_ret, seqR_brk, seqR_cont, seqR_exc, seqR_bad, turnR_nx, turnR_ret, turnR_brk, turnR_cont, turnR_exc, turnR_bad, atI_0, atI_1, atI_lit, atI_natC, ixN_0, ixN_1, ixN_nat, List.map_cons, List.map_nil, List.length_cons, List.length_nil, List.length_map, List.cons_append, List.nil_append, List.replicate, List.getElem?_cons_zero, List.getElem?_cons_succ, List.set_cons_zero, List.set_cons_succ, List.length_set, Option.isSome_some, Nat.sub_self, Nat.reduceAdd, Nat.reduceSub, Nat.reduceLT, if_true, if_false, ite_true, ite_false, reduceIte, Bool.false_eq_true, decide_eq_true_eq, Bool.not_true, Bool.not_false, Nat.zero_add, true_and, and_true, false_and, and_false, and_self, Bool.xor_false, Bool.false_xor, Bool.true_xor, Bool.xor_true, get_new, set_new, get_new1, set_new1, le_0, le_1, le_2, le_3, le_4, le_5, le_6, le_7, le_8, cIn_one, cEq_int, cEq_str, cEq_bl]
      by_cases hk3 : drawV ds a 5 = 3
      · obtain ⟨c, hc, ec⟩ := pick_eq (ds := ds) (a := a + 1) (G := box ds (a + 1 + 1) :: G) (n := 3) (by rw [len_SG]; decide) (by rw [len_SG]; decide) (by omega)
        have m := mem_SG c hc
        refine ⟨[c], a + 1 + 1, ?_, by simp, by simp, .inr (.inr ⟨c, rfl, m.1, m.2.1, m.2.2⟩)⟩
        have c8 : C__law_token_8 [some (.ref 0), some (.int (drawV ds a 5)), none] (box ds (a + 1) :: G) = .ok true (box ds (a + 1) :: G) := by
          simp only [C__law_token_8, hk3, decide_true, runF, sSeq, sAsg, sSetI, sIf, sRet, sRetN, sExp, sBrk, sCont, sNil, sFor, sAug, sAsgG, asgR, gN, gT, gsCons, gsNil, iSeqL, iSeqT, iRg1, iRg2, eBin, eUn, eVar, eCst, eApp, eCall, eTup, eLst, eNew, eSl, oSome, oNone, aCons, aNil, dT, dAnd, dOr, dNot, eAnd, eOr, eNot, eIf, truth, eMt, isLst, isStr, seqOf, lstOf, setI, bIx, bAdd, bSub, bNeg, bIadd, cLt, cLe, cGt, cGe, cIsN, fLen, fMax, fMin, fAbs, fInt, fStr, fTuple, fList, mAppend, bSl, bindE_ok, bindE_exc, bindE_bad, bindS_ok, bindS_exc, bindS_bad, seqR_nx, seqR_ret, seqR_brk, seqR_cont, seqR_exc, seqR_bad, turnR_nx, turnR_ret, turnR_brk, turnR_cont, turnR_exc, turnR_bad, atI_0, atI_1, atI_lit, atI_natC, ixN_0, ixN_1, ixN_nat, List.map_cons, List.map_nil, List.length_cons, List.length_nil, List.length_map, List.cons_append, List.nil_append, List.replicate, List.getElem?_cons_zero, List.getElem?_cons_succ, List.set_cons_zero, List.set_cons_succ, List.length_set, Option.isSome_some, Nat.sub_self, Nat.reduceAdd, Nat.reduceSub, Nat.reduceLT, if_true, if_false, ite_true, ite_false, reduceIte, Bool.false_eq_true, decide_eq_true_eq, Bool.not_true, Bool.not_false, Nat.zero_add, true_and, and_true, false_and, and_false, and_self, Bool.xor_false, Bool.false_xor, Bool.true_xor, Bool.xor_true, get_new, set_new, get_new1, set_new1, le_0, le_1, le_2, le_3, le_4, le_5, le_6, le_7, le_8, cIn_one, cEq_int, cEq_str, cEq_bl]
        have s9 : S__law_token_9 [some (.ref 0), some (.int (drawV ds a 5)), none] (box ds (a + 1) :: G) = .ret (.lst [.str (lit "sign"), .str [c]]) (box ds (a + 1 + 1) :: G) := by
          simp only [S__law_token_9, sRet, eLst, aCons, eBin, eCall, aNil, eVar, eCst, draw_eq (m := 3) (by omega), bindE_ok, bindS_ok, List.getElem?_cons_zero, ec, List.length_cons, List.length_nil, le_2, if_true, Nat.zero_add, Nat.reduceAdd]
        rw [kind_one m.1 m.2.1, if_pos hc]
        simp only [F__law_token, B__law_token, runF, S__law_token_2, S__law_token_5, S__law_token_8, sSeq, sIf, sNil, tk1, c2, c5, c8, s9, List.map_cons, List.map_nil, List.length_cons, List.length_nil, List.replicate, List.cons_append, List.nil_append, Nat.reduceAdd, Nat.reduceSub, Nat.zero_add, seqR_nx, seqR_ret, bindS_ok, if_true, if_false, Bool.false_eq_true]
        exact finish_same rfl
      · obtain ⟨c, hc, ec⟩ := pick_eq (ds := ds) (a := a + 1) (G := box ds (a + 1 + 1) :: G) (n := 30) (by rw [len_AB]; decide) (by rw [len_AB]; decide) (by omega)
        have m := mem_AB c hc
        refine ⟨[c], a + 1 + 1, ?_, by simp, by simp, .inr (.inr ⟨c, rfl, m.1, m.2.1, m.2.2.2⟩)⟩
        have c8 : C__law_token_8 [some (.ref 0), some (.int (drawV ds a 5)), none] (box ds (a + 1) :: G) = .ok false (box ds (a + 1) :: G) := by
          simp only [C__law_token_8, hk3, decide_false, runF, sSeq, sAsg, sSetI, sIf, sRet, sRetN, sExp, sBrk, sCont, sNil, sFor, sAug, sAsgG, asgR, gN, gT, gsCons, gsNil, iSeqL, iSeqT, iRg1, iRg2, eBin, eUn, eVar, eCst, eApp, eCall, eTup, eLst, eNew, eSl, oSome, oNone, aCons, aNil, dT, dAnd, dOr, dNot, eAnd, eOr, eNot, eIf, truth, eMt, isLst, isStr, seqOf, lstOf, setI, bIx, bAdd, bSub, bNeg, bIadd, cLt, cLe, cGt, cGe, cIsN, fLen, fMax, fMin, fAbs, fInt, fStr, fTuple, fList, mAppend, bSl, bindE_ok, bindE_exc, bindE_bad, bindS_ok, bindS_exc, bindS_bad, seqR_nx, seqR_ret, seqR_brk, seqR_cont, seqR_exc, seqR_bad, turnR_nx, turnR_ret, turnR_brk, turnR_cont, turnR_exc, turnR_bad, atI_0, atI_1, atI_lit, atI_natC, ixN_0, ixN_1, ixN_nat, List.map_cons, List.map_nil, List.length_cons, List.length_nil, List.length_map, List.cons_append, List.nil_append, List.replicate, List.getElem?_cons_zero, List.getElem?_cons_succ, List.set_cons_zero, List.set_cons_succ, List.length_set, Option.isSome_some, Nat.sub_self, Nat.reduceAdd, Nat.reduceSub, Nat.reduceLT, if_true, if_false, ite_true, ite_false, reduceIte, Bool.false_eq_true, decide_eq_true_eq, Bool.not_true, Bool.not_false, Nat.zero_add, true_and, and_true, false_and, and_false, and_self, Bool.xor_false, Bool.false_xor, Bool.true_xor, Bool.xor_true, get_new, set_new, get_new1, set_new1, le_0, le_1, le_2, le_3, le_4, le_5, le_6, le_7, le_8, cIn_one, cEq_int, cEq_str, cEq_bl]
        have s9 : S__law_token_10 [some (.ref 0), some (.int (drawV ds a 5)), none] (box ds (a + 1) :: G) = .ret (.lst [.str (lit "bad"), .str [c]]) (box ds (a + 1 + 1) :: G) := by
          simp only [S__law_token_10, sRet, eLst, aCons, eBin, eCall, aNil, eVar, eCst, draw_eq (m := 30) (by omega), bindE_ok, bindS_ok, List.getElem?_cons_zero, ec, List.length_cons, List.length_nil, le_2, if_true, Nat.zero_add, Nat.reduceAdd]
        rw [kind_one m.1 m.2.1, if_neg m.2.2.1]
        simp only [F__law_token, B__law_token, runF, S__law_token_2, S__law_token_5, S__law_token_8, sSeq, sIf, sNil, tk1, c2, c5, c8, s9, List.map_cons, List.map_nil, List.length_cons, List.length_nil, List.replicate, List.cons_append, List.nil_append, Nat.reduceAdd, Nat.reduceSub, Nat.zero_add, seqR_nx, seqR_ret, bindS_ok, if_true, if_false, Bool.false_eq_true]
        exact finish_same rfl
/-! ## the row of tokens -/
/-- what may stand behind a row of tokens without running together -/
def Free (due : List (List Nat)) (s : List Nat) : Prop := ∀ t, due.getLast? = some t → ∀ c r, s = c :: r → ¬ (c ∈ LT ∧ t.headD 0 ∈ LT) ∧ ¬ (c ∈ DG ∧ t.headD 0 ∈ DG)
def Good (due : List (List Nat)) (text : List Nat) : Prop := ∀ s, Free due s → toks (text ++ s) = due ++ toks s
theorem tw_app {cs t s : List Nat} (h : ∀ c ∈ t, c ∈ cs) (hs : ∀ c r, s = c :: r → ¬ c ∈ cs) : tw cs (t ++ s) = t := by
  unfold tw
  induction t with
  | nil =>
    cases s with
    | nil => rfl
    | cons c r => rw [List.nil_append, List.takeWhile_cons, if_neg (by rw [decide_eq_true_eq]; exact hs c r rfl)]
  | cons c r ih =>
    rw [List.cons_append, List.takeWhile_cons, if_pos (decide_eq_true (h c List.mem_cons_self)), ih fun d hd => h d (List.mem_cons_of_mem _ hd)]
theorem tok_front {t s : List Nat} (h : TokOk t) (hs : ∀ c r, s = c :: r → ¬ (c ∈ LT ∧ t.headD 0 ∈ LT) ∧ ¬ (c ∈ DG ∧ t.headD 0 ∈ DG)) : toks (t ++ s) = t :: toks s := by
  obtain ⟨h0, _, h⟩ := h
  cases t with
  | nil => exact absurd rfl h0
  | cons c r =>
    have fin : tokAt (c :: (r ++ s)) = c :: r → c ≠ 32 → toks (c :: r ++ s) = (c :: r) :: toks s := fun e n => by
      rw [List.cons_append, toks_tok n, e]
      congr 1
      rw [← List.cons_append, List.drop_left]
    rcases h with h | h | ⟨d, e, d1, d2, d3⟩
    · have hc := h c List.mem_cons_self
      refine fin ?_ fun z => by rw [z, mem_LT] at hc; omega
      show (if c ∈ LT then tw LT (c :: (r ++ s)) else _) = _
      rw [if_pos hc, ← List.cons_append]
      exact tw_app h fun d q e hd => (hs d q e).1 ⟨hd, hc⟩
    · have hc := h c List.mem_cons_self
      have hn : ¬ c ∈ LT := fun z => apart z hc
      refine fin ?_ fun z => by rw [z, mem_DG] at hc; omega
      show (if c ∈ LT then _ else if c ∈ DG then tw DG (c :: (r ++ s)) else _) = _
      rw [if_neg hn, if_pos hc, ← List.cons_append]
      exact tw_app h fun d q e hd => (hs d q e).2 ⟨hd, hc⟩
    · injection e with e1 e2
      subst e1 e2
      refine fin ?_ d3
      show (if c ∈ LT then _ else if c ∈ DG then _ else [c]) = _
      rw [if_neg d1, if_neg d2]
theorem toks_sps (n : Nat) (s : List Nat) : toks (List.replicate n 32 ++ s) = toks s := by
  induction n with
  | zero => rfl
  | succ n ih => rw [List.replicate_succ, List.cons_append, toks_sp, ih]
theorem good_start (n : Nat) : Good [] (List.replicate n 32) := fun s _ => by rw [toks_sps]; rfl
theorem sp_LT : ¬ (32 : Nat) ∈ LT := by rw [mem_LT]; omega
theorem sp_DG : ¬ (32 : Nat) ∈ DG := by rw [mem_DG]; omega
theorem good_more {due : List (List Nat)} {text t : List Nat} {n : Nat} (g : Good due text) (ht : TokOk t) (hn : n = 0 → ∀ u, due.getLast? = some u → ¬ (t.headD 0 ∈ LT ∧ u.headD 0 ∈ LT) ∧ ¬ (t.headD 0 ∈ DG ∧ u.headD 0 ∈ DG)) :
    Good (due ++ [t]) (text ++ List.replicate n 32 ++ t) := fun s hs => by
  have f : Free due (List.replicate n 32 ++ (t ++ s)) := fun u hu c r e => by
    cases n with
    | succ n =>
      rw [List.replicate_succ, List.cons_append] at e
      injection e with e _
      rw [← e]
      exact ⟨fun z => sp_LT z.1, fun z => sp_DG z.1⟩
    | zero =>
      have := hn rfl u hu
      cases t with
      | nil => exact absurd rfl ht.1
      | cons d q =>
        have e' : d :: (q ++ s) = c :: r := e
        injection e' with e' _
        rw [← e']
        exact this
  have e1 := g _ f
  rw [toks_sps, tok_front ht fun c r e => hs t (by simp) c r e] at e1
  rw [List.append_assoc, List.append_assoc, List.append_assoc]
  simpa using e1


/-! ## the law's loop -/
def lawF (ns : List Int) (text : List Nat) (a b c : Option D) : PEnv := [some (.scr ns), some (.ref 0), some (.ref 1), some (.str text), a, b, c]
theorem same_sort {t u : List Nat} (ht : TokOk t) (h : ¬ (0 < sortM t ∧ sortM t = sortM u)) : ¬ (t.headD 0 ∈ LT ∧ u.headD 0 ∈ LT) ∧ ¬ (t.headD 0 ∈ DG ∧ u.headD 0 ∈ DG) := by
  unfold sortM at h
  refine ⟨fun ⟨a, b⟩ => ?_, fun ⟨a, b⟩ => ?_⟩
  · rw [if_neg (apart a), if_pos a, if_neg (apart b), if_pos b] at h
    exact h ⟨by omega, rfl⟩
  · rw [if_pos a, if_pos b] at h
    exact h ⟨by omega, rfl⟩
theorem law_turn {ns ds : List Int} {a : Nat} {due : List (List Nat)} {text : List Nat} {k b c : Option D} (hd : ∀ t ∈ due, TokOk t) (g : Good due text) (h1 : due.length ≤ 15) (h2 : text.length ≤ 1000) :
    ∃ (t : List Nat) (a' n : Nat) (b' c' : Option D), L_law_4 (lawF ns text k b c) [box ds a, .lst (due.map tokD)] = .nx (lawF ns (text ++ List.replicate n 32 ++ t) k b' c') [box ds a', .lst ((due ++ [t]).map tokD)] ∧ TokOk t ∧ n ≤ 1 ∧
      Good (due ++ [t]) (text ++ List.replicate n 32 ++ t) := by
  obtain ⟨t, a1, et, ht⟩ := token_eq (ds := ds) (a := a) (G := [.lst (due.map tokD)])
  have r6 := draw_range ds a1 (m := 6) (by omega)
  have s5 : S_law_5 (lawF ns text k b c) [box ds a, .lst (due.map tokD)] = .nx (lawF ns text k (some (.lst [.str (kindM t), .str t])) c) [box ds a1, .lst (due.map tokD)] := by
    unfold lawF
    simp only [S_law_5, et, runF, sSeq, sAsg, sSetI, sIf, sRet, sRetN, sExp, sBrk, sCont, sNil, sFor, sAug, sAsgG, asgR, gN, gT, gsCons, gsNil, iSeqL, iSeqT, iRg1, iRg2, eBin, eUn, eVar, eCst, eApp, eCall, eTup, eLst, eNew, eSl, oSome, oNone, aCons, aNil, dT, dAnd, dOr, dNot, eAnd, eOr, eNot, eIf, truth, eMt, isLst, isStr, seqOf, lstOf, setI, bIx, bAdd, bSub, bNeg, bIadd, cLt, cLe, cGt, cGe, cIsN, fLen, fMax, fMin, fAbs, fInt, fStr, fTuple, fList, mAppend, bSl, bindE_ok, bindE_exc, bindE_bad, bindS_ok, bindS_exc, bindS_bad, seqR_nx, seqR_ret, seqR_brk, seqR_cont, seqR_exc, seqR_bad, turnR_nx, turnR_ret, turnR_brk, turnR_cont, turnR_exc, turnR_bad, atI_0, atI_1, atI_lit, atI_natC, ixN_0, ixN_1, ixN_nat, List.map_cons, List.map_nil, List.length_cons, List.length_nil, List.length_map, List.cons_append, List.nil_append, List.replicate, List.getElem?_cons_zero, List.getElem?_cons_succ, List.set_cons_zero, List.set_cons_succ, List.length_set, Option.isSome_some, Nat.sub_self, Nat.reduceAdd, Nat.reduceSub, Nat.reduceLT, if_true, if_false, ite_true, ite_false, reduceIte, Bool.false_eq_true, decide_eq_true_eq, Bool.not_true, Bool.not_false, Nat.zero_add, true_and, and_true, false_and, and_false, and_self, Bool.xor_false, Bool.false_xor, Bool.true_xor, Bool.xor_true, get_new, set_new, get_new1, set_new1, le_0, le_1, le_2, le_3, le_4, le_5, le_6, le_7, le_8, cIn_one, cEq_int, cEq_str, cEq_bl]
  have s6 : S_law_6 (lawF ns text k (some (.lst [.str (kindM t), .str t])) c) [box ds a1, .lst (due.map tokD)] = .nx (lawF ns text k (some (.lst [.str (kindM t), .str t])) (some (.int (drawV ds a1 6 / 3)))) [box ds (a1 + 1), .lst (due.map tokD)] := by
    unfold lawF
    simp only [S_law_6, draw_eq (m := 6) (by omega), fdivL _ 3 (by omega), runF, sSeq, sAsg, sSetI, sIf, sRet, sRetN, sExp, sBrk, sCont, sNil, sFor, sAug, sAsgG, asgR, gN, gT, gsCons, gsNil, iSeqL, iSeqT, iRg1, iRg2, eBin, eUn, eVar, eCst, eApp, eCall, eTup, eLst, eNew, eSl, oSome, oNone, aCons, aNil, dT, dAnd, dOr, dNot, eAnd, eOr, eNot, eIf, truth, eMt, isLst, isStr, seqOf, lstOf, setI, bIx, bAdd, bSub, bNeg, bIadd, cLt, cLe, cGt, cGe, cIsN, fLen, fMax, fMin, fAbs, fInt, fStr, fTuple, fList, mAppend, bSl, bindE_ok, bindE_exc, bindE_bad, bindS_ok, bindS_exc, bindS_bad, seqR_nx, seqR_ret, seqR_brk, seqR_cont, seqR_exc, seqR_bad, turnR_nx, turnR_ret, turnR_brk, turnR_cont, turnR_exc, turnR_bad, atI_0, atI_1, atI_lit, atI_natC, ixN_0, ixN_1, ixN_nat, List.map_cons, List.map_nil, List.length_cons, List.length_nil, List.length_map, List.cons_append, List.nil_append, List.replicate, List.getElem?_cons_zero, List.getElem?_cons_succ, List.set_cons_zero, List.set_cons_succ, List.length_set, Option.isSome_some, Nat.sub_self, Nat.reduceAdd, Nat.reduceSub, Nat.reduceLT, if_true, if_false, ite_true, ite_false, reduceIte, Bool.false_eq_true, decide_eq_true_eq, Bool.not_true, Bool.not_false, Nat.zero_add, true_and, and_true, false_and, and_false, and_self, Bool.xor_false, Bool.false_xor, Bool.true_xor, Bool.xor_true, get_new, set_new, get_new1, set_new1, le_0, le_1, le_2, le_3, le_4, le_5, le_6, le_7, le_8, cIn_one, cEq_int, cEq_str, cEq_bl]
  -- the spaces
  have s7 : ∃ n : Nat, n ≤ 1 ∧ (n = 0 → ∀ u, due.getLast? = some u → ¬ (0 < sortM t ∧ sortM t = sortM u)) ∧ S_law_7 (lawF ns text k (some (.lst [.str (kindM t), .str t])) (some (.int (drawV ds a1 6 / 3)))) [box ds (a1 + 1), .lst (due.map tokD)] = .nx (lawF ns text k (some (.lst [.str (kindM t), .str t])) (some (.int n))) [box ds (a1 + 1), .lst (due.map tokD)] := by
    have sp : drawV ds a1 6 / 3 = 0 ∨ drawV ds a1 6 / 3 = 1 := by omega
    have c7 : ∃ v : Bool, C_law_7 (lawF ns text k (some (.lst [.str (kindM t), .str t])) (some (.int (drawV ds a1 6 / 3)))) [box ds (a1 + 1), .lst (due.map tokD)] = .ok v [box ds (a1 + 1), .lst (due.map tokD)] ∧ (v = false → ∀ u, due.getLast? = some u → ¬ (0 < sortM t ∧ sortM t = sortM u)) := by
      unfold lawF
      cases hl : due.getLast? with
      | none =>
        have : due = [] := List.getLast?_eq_none_iff.mp hl
        subst this
        refine ⟨false, ?_, fun _ u hu => nomatch hu⟩
        have h00 : ¬ (0 : Int) < ((0 : Nat) : Int) := by decide
        simp only [C_law_7, h00, decide_false, runF, sSeq, sAsg, sSetI, sIf, sRet, sRetN, sExp, sBrk, sCont, sNil, sFor, sAug, sAsgG, asgR, gN, gT, gsCons, gsNil, iSeqL, iSeqT, iRg1, iRg2, eBin, eUn, eVar, eCst, eApp, eCall, eTup, eLst, eNew, eSl, oSome, oNone, aCons, aNil, dT, dAnd, dOr, dNot, eAnd, eOr, eNot, eIf, truth, eMt, isLst, isStr, seqOf, lstOf, setI, bIx, bAdd, bSub, bNeg, bIadd, cLt, cLe, cGt, cGe, cIsN, fLen, fMax, fMin, fAbs, fInt, fStr, fTuple, fList, mAppend, bSl, bindE_ok, bindE_exc, bindE_bad, bindS_ok, bindS_exc, bindS_bad, seqR_nx, seqR_ret, seqR_brk, seqR_cont, seqR_exc, seqR_bad, turnR_nx, turnR_ret, turnR_brk, turnR_cont, turnR_exc, turnR_bad, atI_0, atI_1, atI_lit, atI_natC, ixN_0, ixN_1, ixN_nat, List.map_cons, List.map_nil, List.length_cons, List.length_nil, List.length_map, List.cons_append, List.nil_append, List.replicate, List.getElem?_cons_zero, List.getElem?_cons_succ, List.set_cons_zero, List.set_cons_succ, List.length_set, Option.isSome_some, Nat.sub_self, Nat.reduceAdd, Nat.reduceSub, Nat.reduceLT, if_true, if_false, ite_true, ite_false, reduceIte, Bool.false_eq_true, decide_eq_true_eq, Bool.not_true, Bool.not_false, Nat.zero_add, true_and, and_true, false_and, and_false, and_self, Bool.xor_false, Bool.false_xor, Bool.true_xor, Bool.xor_true, get_new, set_new, get_new1, set_new1, le_0, le_1, le_2, le_3, le_4, le_5, le_6, le_7, le_8, cIn_one, cEq_int, cEq_str, cEq_bl]
      | some u =>
        have hu : TokOk u := hd u (List.mem_of_getLast? hl)
        have hne : 0 < due.length := List.length_pos_iff.mpr fun z => by rw [z] at hl; cases hl
        have hne' : (0 : Int) < (due.length : Int) := by omega
        have hg : (due.map tokD).getLast? = some (tokD u) := by rw [List.getLast?_map, hl]; rfl
        by_cases p1 : 0 < sortM t
        · by_cases p2 : sortM t = sortM u
          · refine ⟨true, ?_, fun z => nomatch z⟩
            simp only [C_law_7, hne', sort_eq ht, sort_eq hu, atI_neg1, hg, tokD, p1, p2, decide_true, runF, sSeq, sAsg, sSetI, sIf, sRet, sRetN, sExp, sBrk, sCont, sNil, sFor, sAug, sAsgG, asgR, gN, gT, gsCons, gsNil, iSeqL, iSeqT, iRg1, iRg2, eBin, eUn, eVar, eCst, eApp, eCall, eTup, eLst, eNew, eSl, oSome, oNone, aCons, aNil, dT, dAnd, dOr, dNot, eAnd, eOr, eNot, eIf, truth, eMt, isLst, isStr, seqOf, lstOf, setI, bIx, bAdd, bSub, bNeg, bIadd, cLt, cLe, cGt, cGe, cIsN, fLen, fMax, fMin, fAbs, fInt, fStr, fTuple, fList, mAppend, bSl, bindE_ok, bindE_exc, bindE_bad, bindS_ok, bindS_exc, bindS_bad, seqR_nx, seqR_ret, seqR_brk, seqR_cont, seqR_exc, seqR_bad, turnR_nx, turnR_ret, turnR_brk, turnR_cont, turnR_exc, turnR_bad, atI_0, atI_1, atI_lit, atI_natC, ixN_0, ixN_1, ixN_nat, List.map_cons, List.map_nil, List.length_cons, List.length_nil, List.length_map, List.cons_append, List.nil_append, List.replicate, List.getElem?_cons_zero, List.getElem?_cons_succ, List.set_cons_zero, List.set_cons_succ, List.length_set, Option.isSome_some, Nat.sub_self, Nat.reduceAdd, Nat.reduceSub, Nat.reduceLT, if_true, if_false, ite_true, ite_false, reduceIte, Bool.false_eq_true, decide_eq_true_eq, Bool.not_true, Bool.not_false, Nat.zero_add, true_and, and_true, false_and, and_false, and_self, Bool.xor_false, Bool.false_xor, Bool.true_xor, Bool.xor_true, get_new, set_new, get_new1, set_new1, le_0, le_1, le_2, le_3, le_4, le_5, le_6, le_7, le_8, cIn_one, cEq_int, cEq_str, cEq_bl]
            simp only [← p2, p1, decide_true, if_true]
          · refine ⟨false, ?_, fun _ w hw => by cases hw; exact fun z => p2 z.2⟩
            simp only [C_law_7, hne', sort_eq ht, sort_eq hu, atI_neg1, hg, tokD, p1, p2, decide_true, decide_false, runF, sSeq, sAsg, sSetI, sIf, sRet, sRetN, sExp, sBrk, sCont, sNil, sFor, sAug, sAsgG, asgR, gN, gT, gsCons, gsNil, iSeqL, iSeqT, iRg1, iRg2, eBin, eUn, eVar, eCst, eApp, eCall, eTup, eLst, eNew, eSl, oSome, oNone, aCons, aNil, dT, dAnd, dOr, dNot, eAnd, eOr, eNot, eIf, truth, eMt, isLst, isStr, seqOf, lstOf, setI, bIx, bAdd, bSub, bNeg, bIadd, cLt, cLe, cGt, cGe, cIsN, fLen, fMax, fMin, fAbs, fInt, fStr, fTuple, fList, mAppend, bSl, bindE_ok, bindE_exc, bindE_bad, bindS_ok, bindS_exc, bindS_bad, seqR_nx, seqR_ret, seqR_brk, seqR_cont, seqR_exc, seqR_bad, turnR_nx, turnR_ret, turnR_brk, turnR_cont, turnR_exc, turnR_bad, atI_0, atI_1, atI_lit, atI_natC, ixN_0, ixN_1, ixN_nat, List.map_cons, List.map_nil, List.length_cons, List.length_nil, List.length_map, List.cons_append, List.nil_append, List.replicate, List.getElem?_cons_zero, List.getElem?_cons_succ, List.set_cons_zero, List.set_cons_succ, List.length_set, Option.isSome_some, Nat.sub_self, Nat.reduceAdd, Nat.reduceSub, Nat.reduceLT, if_true, if_false, ite_true, ite_false, reduceIte, Bool.false_eq_true, decide_eq_true_eq, Bool.not_true, Bool.not_false, Nat.zero_add, true_and, and_true, false_and, and_false, and_self, Bool.xor_false, Bool.false_xor, Bool.true_xor, Bool.xor_true, get_new, set_new, get_new1, set_new1, le_0, le_1, le_2, le_3, le_4, le_5, le_6, le_7, le_8, cIn_one, cEq_int, cEq_str, cEq_bl]
        · refine ⟨false, ?_, fun _ w hw => fun z => p1 z.1⟩
          simp only [C_law_7, hne', sort_eq ht, p1, decide_true, decide_false, runF, sSeq, sAsg, sSetI, sIf, sRet, sRetN, sExp, sBrk, sCont, sNil, sFor, sAug, sAsgG, asgR, gN, gT, gsCons, gsNil, iSeqL, iSeqT, iRg1, iRg2, eBin, eUn, eVar, eCst, eApp, eCall, eTup, eLst, eNew, eSl, oSome, oNone, aCons, aNil, dT, dAnd, dOr, dNot, eAnd, eOr, eNot, eIf, truth, eMt, isLst, isStr, seqOf, lstOf, setI, bIx, bAdd, bSub, bNeg, bIadd, cLt, cLe, cGt, cGe, cIsN, fLen, fMax, fMin, fAbs, fInt, fStr, fTuple, fList, mAppend, bSl, bindE_ok, bindE_exc, bindE_bad, bindS_ok, bindS_exc, bindS_bad, seqR_nx, seqR_ret, seqR_brk, seqR_cont, seqR_exc, seqR_bad, turnR_nx, turnR_ret, turnR_brk, turnR_cont, turnR_exc, turnR_bad, atI_0, atI_1, atI_lit, atI_natC, ixN_0, ixN_1, ixN_nat, List.map_cons, List.map_nil, List.length_cons, List.length_nil, List.length_map, List.cons_append, List.nil_append, List.replicate, List.getElem?_cons_zero, List.getElem?_cons_succ, List.set_cons_zero, List.set_cons_succ, List.length_set, Option.isSome_some, Nat.sub_self, Nat.reduceAdd, Nat.reduceSub, Nat.reduceLT, if_true, if_false, ite_true, ite_false, reduceIte, Bool.false_eq_true, decide_eq_true_eq, Bool.not_true, Bool.not_false, Nat.zero_add, true_and, and_true, false_and, and_false, and_self, Bool.xor_false, Bool.false_xor, Bool.true_xor, Bool.xor_true, get_new, set_new, get_new1, set_new1, le_0, le_1, le_2, le_3, le_4, le_5, le_6, le_7, le_8, cIn_one, cEq_int, cEq_str, cEq_bl]
    obtain ⟨v, ec, hv⟩ := c7
    cases v with
    | true =>
      refine ⟨1, Nat.le_refl _, fun z => absurd z (by decide), ?_⟩
      simp only [S_law_7, sIf, ec, bindS_ok, if_true]
      unfold lawF
      rcases sp with sp | sp <;> simp only [S_law_8, sp, runF, sSeq, sAsg, sSetI, sIf, sRet, sRetN, sExp, sBrk, sCont, sNil, sFor, sAug, sAsgG, asgR, gN, gT, gsCons, gsNil, iSeqL, iSeqT, iRg1, iRg2, eBin, eUn, eVar, eCst, eApp, eCall, eTup, eLst, eNew, eSl, oSome, oNone, aCons, aNil, dT, dAnd, dOr, dNot, eAnd, eOr, eNot, eIf, truth, eMt, isLst, isStr, seqOf, lstOf, setI, bIx, bAdd, bSub, bNeg, bIadd, cLt, cLe, cGt, cGe, cIsN, fLen, fMax, fMin, fAbs, fInt, fStr, fTuple, fList, mAppend, bSl, bindE_ok, bindE_exc, bindE_bad, bindS_ok, bindS_exc, bindS_bad, seqR_nx, seqR_ret, seqR_brk, seqR_cont, seqR_exc, seqR_bad, turnR_nx, turnR_ret, turnR_brk, turnR_cont, turnR_exc, turnR_bad, atI_0, atI_1, atI_lit, atI_natC, ixN_0, ixN_1, ixN_nat, List.map_cons, List.map_nil, List.length_cons, List.length_nil, List.length_map, List.cons_append, List.nil_append, List.replicate, List.getElem?_cons_zero, List.getElem?_cons_succ, List.set_cons_zero, List.set_cons_succ, List.length_set, Option.isSome_some, Nat.sub_self, Nat.reduceAdd, Nat.reduceSub, Nat.reduceLT, if_true, if_false, ite_true, ite_false, reduceIte, Bool.false_eq_true, decide_eq_true_eq, Bool.not_true, Bool.not_false, Nat.zero_add, true_and, and_true, false_and, and_false, and_self, Bool.xor_false, Bool.false_xor, Bool.true_xor, Bool.xor_true, get_new, set_new, get_new1, set_new1, le_0, le_1, le_2, le_3, le_4, le_5, le_6, le_7, le_8, cIn_one, cEq_int, cEq_str, cEq_bl] <;> rfl
    | false =>
      rcases sp with sp | sp
      · refine ⟨0, Nat.zero_le _, fun _ => hv rfl, ?_⟩
        rw [sp] at ec ⊢
        simp only [S_law_7, sIf, ec, bindS_ok, Bool.false_eq_true, if_false, sNil]
        rfl
      · refine ⟨1, Nat.le_refl _, fun z => absurd z (by decide), ?_⟩
        rw [sp] at ec ⊢
        simp only [S_law_7, sIf, ec, bindS_ok, Bool.false_eq_true, if_false, sNil]
        rfl
  obtain ⟨n, hn, hfree, s7⟩ := s7
  have hm : due.length < maxLine := by unfold maxLine; omega
  have s9 : S_law_9 (lawF ns text k (some (.lst [.str (kindM t), .str t])) (some (.int n))) [box ds (a1 + 1), .lst (due.map tokD)] = .nx (lawF ns text k (some (.lst [.str (kindM t), .str t])) (some (.int n))) [box ds (a1 + 1), .lst ((due ++ [t]).map tokD)] := by
    unfold lawF
    simp only [S_law_9, hm, List.map_append, tokD, runF, sSeq, sAsg, sSetI, sIf, sRet, sRetN, sExp, sBrk, sCont, sNil, sFor, sAug, sAsgG, asgR, gN, gT, gsCons, gsNil, iSeqL, iSeqT, iRg1, iRg2, eBin, eUn, eVar, eCst, eApp, eCall, eTup, eLst, eNew, eSl, oSome, oNone, aCons, aNil, dT, dAnd, dOr, dNot, eAnd, eOr, eNot, eIf, truth, eMt, isLst, isStr, seqOf, lstOf, setI, bIx, bAdd, bSub, bNeg, bIadd, cLt, cLe, cGt, cGe, cIsN, fLen, fMax, fMin, fAbs, fInt, fStr, fTuple, fList, mAppend, bSl, bindE_ok, bindE_exc, bindE_bad, bindS_ok, bindS_exc, bindS_bad, seqR_nx, seqR_ret, seqR_brk, seqR_cont, seqR_exc, seqR_bad, turnR_nx, turnR_ret, turnR_brk, turnR_cont, turnR_exc, turnR_bad, atI_0, atI_1, atI_lit, atI_natC, ixN_0, ixN_1, ixN_nat, List.map_cons, List.map_nil, List.length_cons, List.length_nil, List.length_map, List.cons_append, List.nil_append, List.replicate, List.getElem?_cons_zero, List.getElem?_cons_succ, List.set_cons_zero, List.set_cons_succ, List.length_set, Option.isSome_some, Nat.sub_self, Nat.reduceAdd, Nat.reduceSub, Nat.reduceLT, if_true, if_false, ite_true, ite_false, reduceIte, Bool.false_eq_true, decide_eq_true_eq, Bool.not_true, Bool.not_false, Nat.zero_add, true_and, and_true, false_and, and_false, and_self, Bool.xor_false, Bool.false_xor, Bool.true_xor, Bool.xor_true, get_new, set_new, get_new1, set_new1, le_0, le_1, le_2, le_3, le_4, le_5, le_6, le_7, le_8, cIn_one, cEq_int, cEq_str, cEq_bl]
  have hl1 : text.length + (List.replicate n 32).length ≤ maxLine := by rw [List.length_replicate]; unfold maxLine; omega
  have hl2 : (text ++ List.replicate n 32).length + t.length ≤ maxLine := by have := ht.2.1; rw [List.length_append, List.length_replicate]; unfold maxLine; omega
  have s10 : S_law_10 (lawF ns text k (some (.lst [.str (kindM t), .str t])) (some (.int n))) [box ds (a1 + 1), .lst ((due ++ [t]).map tokD)] = .nx (lawF ns (text ++ List.replicate n 32 ++ t) k (some (.lst [.str (kindM t), .str t])) (some (.int n))) [box ds (a1 + 1), .lst ((due ++ [t]).map tokD)] := by
    unfold lawF
    simp only [S_law_10, lit_sp, mulStr (a := [32]) (n := (n : Int)) (by omega) (by omega) (by simp), Int.toNat_natCast, repL_rep, hl1, hl2, runF, sSeq, sAsg, sSetI, sIf, sRet, sRetN, sExp, sBrk, sCont, sNil, sFor, sAug, sAsgG, asgR, gN, gT, gsCons, gsNil, iSeqL, iSeqT, iRg1, iRg2, eBin, eUn, eVar, eCst, eApp, eCall, eTup, eLst, eNew, eSl, oSome, oNone, aCons, aNil, dT, dAnd, dOr, dNot, eAnd, eOr, eNot, eIf, truth, eMt, isLst, isStr, seqOf, lstOf, setI, bIx, bAdd, bSub, bNeg, bIadd, cLt, cLe, cGt, cGe, cIsN, fLen, fMax, fMin, fAbs, fInt, fStr, fTuple, fList, mAppend, bSl, bindE_ok, bindE_exc, bindE_bad, bindS_ok, bindS_exc, bindS_bad, seqR_nx, seqR_ret, seqR_brk, seqR_cont, seqR_exc, seqR_bad, turnR_nx, turnR_ret, turnR_brk, turnR_cont, turnR_exc, turnR_bad, atI_0, atI_1, atI_lit, atI_natC, ixN_0, ixN_1, ixN_nat, List.map_cons, List.map_nil, List.length_cons, List.length_nil, List.length_map, List.cons_append, List.nil_append, List.replicate, List.getElem?_cons_zero, List.getElem?_cons_succ, List.set_cons_zero, List.set_cons_succ, List.length_set, Option.isSome_some, Nat.sub_self, Nat.reduceAdd, Nat.reduceSub, Nat.reduceLT, if_true, if_false, ite_true, ite_false, reduceIte, Bool.false_eq_true, decide_eq_true_eq, Bool.not_true, Bool.not_false, Nat.zero_add, true_and, and_true, false_and, and_false, and_self, Bool.xor_false, Bool.false_xor, Bool.true_xor, Bool.xor_true, get_new, set_new, get_new1, set_new1, le_0, le_1, le_2, le_3, le_4, le_5, le_6, le_7, le_8, cIn_one, cEq_int, cEq_str, cEq_bl]
  refine ⟨t, a1 + 1, n, some (.lst [.str (kindM t), .str t]), some (.int n), ?_, ht, hn, good_more g ht fun z u hu => same_sort ht (hfree z u hu)⟩
  simp only [L_law_4, sSeq, s5, s6, s7, s9, s10, seqR_nx]
theorem holds (ns : List Int) (h : ns.length ≤ 63) : ∃ G, F_law [.scr ns] [] = .ok (.bl true) G := by
  obtain ⟨ds, ed, _⟩ := digits_eq (ns := ns) (G := [])
  have r2 := draw_range ds 0 (m := 2) (by omega)
  have r15 := draw_range ds 1 (m := 15) (by omega)
  have s1 : S_law_1 [some (.scr ns), none, none, none, none, none, none] [] = .nx [some (.scr ns), some (.ref 0), none, none, none, none, none] [box ds 0] := by
    simp only [S_law_1, ed, box, runF, sSeq, sAsg, sSetI, sIf, sRet, sRetN, sExp, sBrk, sCont, sNil, sFor, sAug, sAsgG, asgR, gN, gT, gsCons, gsNil, iSeqL, iSeqT, iRg1, iRg2, eBin, eUn, eVar, eCst, eApp, eCall, eTup, eLst, eNew, eSl, oSome, oNone, aCons, aNil, dT, dAnd, dOr, dNot, eAnd, eOr, eNot, eIf, truth, eMt, isLst, isStr, seqOf, lstOf, setI, bIx, bAdd, bSub, bNeg, bIadd, cLt, cLe, cGt, cGe, cIsN, fLen, fMax, fMin, fAbs, fInt, fStr, fTuple, fList, mAppend, bSl, bindE_ok, bindE_exc, bindE_bad, bindS_ok, bindS_exc, bindS_bad, seqR_nx, seqR_ret, seqR_brk, seqR_cont, seqR_exc, seqR_bad, turnR_nx, turnR_ret, turnR_brk, turnR_cont, turnR_exc, turnR_bad, atI_0, atI_1, atI_lit, atI_natC, ixN_0, ixN_1, ixN_nat, List.map_cons, List.map_nil, List.length_cons, List.length_nil, List.length_map, List.cons_append, List.nil_append, List.replicate, List.getElem?_cons_zero, List.getElem?_cons_succ, List.set_cons_zero, List.set_cons_succ, List.length_set, Option.isSome_some, Nat.sub_self, Nat.reduceAdd, Nat.reduceSub, Nat.reduceLT, if_true, if_false, ite_true, ite_false, reduceIte, Bool.false_eq_true, decide_eq_true_eq, Bool.not_true, Bool.not_false, Nat.zero_add, true_and, and_true, false_and, and_false, and_self, Bool.xor_false, Bool.false_xor, Bool.true_xor, Bool.xor_true, get_new, set_new, get_new1, set_new1, le_0, le_1, le_2, le_3, le_4, le_5, le_6, le_7, le_8, cIn_one, cEq_int, cEq_str, cEq_bl]
    rfl
  have s2 : S_law_2 [some (.scr ns), some (.ref 0), none, none, none, none, none] [box ds 0] = .nx [some (.scr ns), some (.ref 0), some (.ref 1), none, none, none, none] [box ds 0, .lst []] := by
    simp only [S_law_2, runF, sSeq, sAsg, sSetI, sIf, sRet, sRetN, sExp, sBrk, sCont, sNil, sFor, sAug, sAsgG, asgR, gN, gT, gsCons, gsNil, iSeqL, iSeqT, iRg1, iRg2, eBin, eUn, eVar, eCst, eApp, eCall, eTup, eLst, eNew, eSl, oSome, oNone, aCons, aNil, dT, dAnd, dOr, dNot, eAnd, eOr, eNot, eIf, truth, eMt, isLst, isStr, seqOf, lstOf, setI, bIx, bAdd, bSub, bNeg, bIadd, cLt, cLe, cGt, cGe, cIsN, fLen, fMax, fMin, fAbs, fInt, fStr, fTuple, fList, mAppend, bSl, bindE_ok, bindE_exc, bindE_bad, bindS_ok, bindS_exc, bindS_bad, seqR_nx, seqR_ret, seqR_brk, seqR_cont, seqR_exc, seqR_bad, turnR_nx, turnR_ret, turnR_brk, turnR_cont, turnR_exc, turnR_bad, atI_0, atI_1, atI_lit, atI_natC, ixN_0, ixN_1, ixN_nat, List.map_cons, List.map_nil, List.length_cons, List.length_nil, List.length_map, List.cons_append, List.nil_append, List.replicate, List.getElem?_cons_zero, List.getElem?_cons_succ, List.set_cons_zero, List.set_cons_succ, List.length_set, Option.isSome_some, Nat.sub_self, Nat.reduceAdd, Nat.reduceSub, Nat.reduceLT, if_true, if_false, ite_true, ite_false, reduceIte, Bool.false_eq_true, decide_eq_true_eq, Bool.not_true, Bool.not_false, Nat.zero_add, true_and, and_true, false_and, and_false, and_self, Bool.xor_false, Bool.false_xor, Bool.true_xor, Bool.xor_true, get_new, set_new, get_new1, set_new1, le_0, le_1, le_2, le_3, le_4, le_5, le_6, le_7, le_8, cIn_one, cEq_int, cEq_str, cEq_bl]
  obtain ⟨n0, hn0⟩ : ∃ n : Nat, drawV ds 0 2 = n := ⟨(drawV ds 0 2).toNat, by omega⟩
  have s3 : S_law_3 [some (.scr ns), some (.ref 0), some (.ref 1), none, none, none, none] [box ds 0, .lst []] = .nx (lawF ns (List.replicate n0 32) none none none) [box ds 1, .lst []] := by
    unfold lawF
    simp only [S_law_3, draw_eq (m := 2) (by omega), hn0, lit_sp, mulStr (a := [32]) (n := (n0 : Int)) (by omega) (by omega) (by simp), Int.toNat_natCast, repL_rep, runF, sSeq, sAsg, sSetI, sIf, sRet, sRetN, sExp, sBrk, sCont, sNil, sFor, sAug, sAsgG, asgR, gN, gT, gsCons, gsNil, iSeqL, iSeqT, iRg1, iRg2, eBin, eUn, eVar, eCst, eApp, eCall, eTup, eLst, eNew, eSl, oSome, oNone, aCons, aNil, dT, dAnd, dOr, dNot, eAnd, eOr, eNot, eIf, truth, eMt, isLst, isStr, seqOf, lstOf, setI, bIx, bAdd, bSub, bNeg, bIadd, cLt, cLe, cGt, cGe, cIsN, fLen, fMax, fMin, fAbs, fInt, fStr, fTuple, fList, mAppend, bSl, bindE_ok, bindE_exc, bindE_bad, bindS_ok, bindS_exc, bindS_bad, seqR_nx, seqR_ret, seqR_brk, seqR_cont, seqR_exc, seqR_bad, turnR_nx, turnR_ret, turnR_brk, turnR_cont, turnR_exc, turnR_bad, atI_0, atI_1, atI_lit, atI_natC, ixN_0, ixN_1, ixN_nat, List.map_cons, List.map_nil, List.length_cons, List.length_nil, List.length_map, List.cons_append, List.nil_append, List.replicate, List.getElem?_cons_zero, List.getElem?_cons_succ, List.set_cons_zero, List.set_cons_succ, List.length_set, Option.isSome_some, Nat.sub_self, Nat.reduceAdd, Nat.reduceSub, Nat.reduceLT, if_true, if_false, ite_true, ite_false, reduceIte, Bool.false_eq_true, decide_eq_true_eq, Bool.not_true, Bool.not_false, Nat.zero_add, true_and, and_true, false_and, and_false, and_self, Bool.xor_false, Bool.false_xor, Bool.true_xor, Bool.xor_true, get_new, set_new, get_new1, set_new1, le_0, le_1, le_2, le_3, le_4, le_5, le_6, le_7, le_8, cIn_one, cEq_int, cEq_str, cEq_bl]
  obtain ⟨k0, hk0⟩ : ∃ n : Nat, drawV ds 1 15 = n := ⟨(drawV ds 1 15).toNat, by omega⟩
  obtain ⟨σ', G', e, a', due, text, x, y, z, rfl, rfl, hd, g, hl, hl2⟩ := for_rng (g := gN 4) (body := L_law_4) (n := k0) (fun i σ G' => ∃ (a' : Nat) (due : List (List Nat)) (text : List Nat) (x y z : Option D), σ = lawF ns text x y z ∧ G' = [box ds a', .lst (due.map tokD)] ∧ (∀ t ∈ due, TokOk t) ∧ Good due text ∧ due.length = i ∧ text.length ≤ 2 + 16 * i)
    (σ := lawF ns (List.replicate n0 32) none none none) (G := [box ds 2, .lst []]) ⟨2, [], _, _, _, _, rfl, rfl, fun t h => by simp at h, good_start n0, rfl, by rw [List.length_replicate]; omega⟩ (by
      rintro j σ G1 hj ⟨a', due, text, x, y, z, rfl, rfl, hd, g, hl, hl2⟩
      obtain ⟨t, a2, n, b', c', e2, ht, hn, g2⟩ := law_turn (ns := ns) (ds := ds) (a := a') (k := some (.int (j : Int))) (b := y) (c := z) hd g (by omega) (by omega)
      refine ⟨lawF ns text (some (.int (j : Int))) y z, _, _, rfl, .inl e2, a2, due ++ [t], _, _, _, _, rfl, rfl, fun u hu => ?_, g2, by simp [hl], ?_⟩
      · rcases List.mem_append.mp hu with hu | hu
        · exact hd u hu
        · rw [List.mem_singleton.mp hu]; exact ht
      · have := ht.2.1
        rw [List.length_append, List.length_append, List.length_replicate]; omega)
  have s4 : S_law_4 (lawF ns (List.replicate n0 32) none none none) [box ds 1, .lst []] = .nx (lawF ns text x y z) [box ds a', .lst (due.map tokD)] := by
    rw [← e]
    unfold S_law_4 sFor iRg1 lawF
    simp only [aCons, aNil, eCall, eVar, eCst, draw_eq (m := 15) (by omega), hk0, bindE_ok, bindS_ok, List.getElem?_cons_zero, List.getElem?_cons_succ, rng1_nat (n := k0) (by omega)]
  have r2b := draw_range ds a' (m := 2) (by omega)
  obtain ⟨n1, hn1⟩ : ∃ n : Nat, drawV ds a' 2 = n := ⟨(drawV ds a' 2).toNat, by omega⟩
  have ft : toks (text ++ List.replicate n1 32) = due := by
    have f : Free due (List.replicate n1 32) := fun u hu c r e => by
      cases n1 with
      | zero => cases e
      | succ n =>
        rw [List.replicate_succ] at e
        injection e with e _
        rw [← e]
        exact ⟨fun z => sp_LT z.1, fun z => sp_DG z.1⟩
    have t0 : toks (List.replicate n1 32) = [] := by have := toks_sps n1 []; rwa [List.append_nil] at this
    rw [g _ f, t0, List.append_nil]
  have hl3 : text.length + (List.replicate n1 32).length ≤ maxLine := by rw [List.length_replicate]; unfold maxLine; omega
  have te := tokens_eq (line := text ++ List.replicate n1 32) (G := [box ds (a' + 1), .lst (due.map tokD)]) (by rw [List.length_append, List.length_replicate]; omega)
  rw [ft] at te
  have se : F__law_same 4 [.lst (due.map tokD), .ref 1] [box ds (a' + 1), .lst (due.map tokD)] = .ok (.bl true) [box ds (a' + 1), .lst (due.map tokD)] := by
    refine same_seq (k := 3) (es := due.map tokD) (fs := due.map tokD) (t := "list") rfl rfl rfl rfl rfl (.inl rfl) (by rw [List.length_map]; omega) fun j u v hu hv => ?_
    rw [hu] at hv
    cases hv
    obtain ⟨w, _, rfl⟩ := List.mem_map.mp (List.mem_of_getElem? hu)
    refine same_seq (k := 2) (es := [.str (kindM w), .str w]) (fs := [.str (kindM w), .str w]) (t := "tuple") rfl rfl rfl rfl rfl (.inr rfl) (by show 2 < 1000000; decide) fun i p q hp hq => ?_
    rw [hp] at hq
    cases hq
    have : p = .str (kindM w) ∨ p = .str w := by
      have := List.mem_of_getElem? hp
      simpa using this
    rcases this with rfl | rfl
    · exact same_str
    · exact same_str
  have s11 : S_law_11 (lawF ns text x y z) [box ds a', .lst (due.map tokD)] = .ret (.bl true) [box ds (a' + 1), .lst (due.map tokD)] := by
    unfold lawF
    simp only [S_law_11, draw_eq (m := 2) (by omega), hn1, lit_sp, mulStr (a := [32]) (n := (n1 : Int)) (by omega) (by omega) (by simp), Int.toNat_natCast, repL_rep, hl3, te, se, runF, sSeq, sAsg, sSetI, sIf, sRet, sRetN, sExp, sBrk, sCont, sNil, sFor, sAug, sAsgG, asgR, gN, gT, gsCons, gsNil, iSeqL, iSeqT, iRg1, iRg2, eBin, eUn, eVar, eCst, eApp, eCall, eTup, eLst, eNew, eSl, oSome, oNone, aCons, aNil, dT, dAnd, dOr, dNot, eAnd, eOr, eNot, eIf, truth, eMt, isLst, isStr, seqOf, lstOf, setI, bIx, bAdd, bSub, bNeg, bIadd, cLt, cLe, cGt, cGe, cIsN, fLen, fMax, fMin, fAbs, fInt, fStr, fTuple, fList, mAppend, bSl, bindE_ok, bindE_exc, bindE_bad, bindS_ok, bindS_exc, bindS_bad, seqR_nx, seqR_ret, seqR_brk, seqR_cont, seqR_exc, seqR_bad, turnR_nx, turnR_ret, turnR_brk, turnR_cont, turnR_exc, turnR_bad, atI_0, atI_1, atI_lit, atI_natC, ixN_0, ixN_1, ixN_nat, List.map_cons, List.map_nil, List.length_cons, List.length_nil, List.length_map, List.cons_append, List.nil_append, List.replicate, List.getElem?_cons_zero, List.getElem?_cons_succ, List.set_cons_zero, List.set_cons_succ, List.length_set, Option.isSome_some, Nat.sub_self, Nat.reduceAdd, Nat.reduceSub, Nat.reduceLT, if_true, if_false, ite_true, ite_false, reduceIte, Bool.false_eq_true, decide_eq_true_eq, Bool.not_true, Bool.not_false, Nat.zero_add, true_and, and_true, false_and, and_false, and_self, Bool.xor_false, Bool.false_xor, Bool.true_xor, Bool.xor_true, get_new, set_new, get_new1, set_new1, le_0, le_1, le_2, le_3, le_4, le_5, le_6, le_7, le_8, cIn_one, cEq_int, cEq_str, cEq_bl]
  refine ⟨[], ?_⟩
  simp only [F_law, B_law, runF, sSeq, List.map_cons, List.map_nil, List.length_cons, List.length_nil, List.replicate, List.cons_append, List.nil_append, Nat.reduceAdd, Nat.reduceSub, Nat.zero_add, s1, s2, s3, s4, s11, seqR_nx]
  exact finish_top rfl

end K01
namespace K01
open PySem PySem.Spec PyProof.Rows L2 Dl
set_option maxHeartbeats 0
abbrev R : PySem.W.OpenRow := PySem.W.OpenLaw.row PySem.Challenge.rw_latestart_k01_tokens_of_lines
abbrev hk : PySem.W.Hook := He.hookD 4 fa fn
def ob (s : PySem.W.SharedT) : He.AlD := He.obsDG 4 fa fn (HandSHeadRun.getT s)
theorem ob_eq (s : PySem.W.SharedT) : ob s = hk.obs s.abs := He.obsDG_eq (HandSHeadRun.getT_eq s)
def loose : List Str := (["__name__", "LETTERS", "DIGITS", "SIGNS", "MOST_LETTERS", "MOST_DIGITS", "tokens", "string_at", "end_of_run", "kind_of", "is_number", "_law_cell", "_law_digits", "_law_draw", "_law_same", "_law_run", "_law_token", "_law_sort"] : List Str)
theorem run_ (w : World) : HandSHeadRun.RunEq R (PySem.W.view R.prog [19]) hk ob 1500 loose w := by
  intro os
  kernel_rfl
end K01
open PySem PySem.W PySem.Calls PyProof.Rows
set_option maxHeartbeats 0
theorem PySem.Challenge.cw_latestart_k01_tokens_of_lines_holds : PySem.Challenge.rw_latestart_k01_tokens_of_lines.Holds := by
  w_on; o_law
  refine HandSHeadRun.head_any (r := K01.R) (q := view K01.R.prog [19]) (H := K01.hk) (ob := K01.ob) (M := 1500) (loose := K01.loose) (d := HandSHeadRun.topDef K01.R.prog 19) (kwd := []) K01.ob_eq
    (by kernel_rfl) (fun s => by kernel_rfl) K01.run_ (by kernel_rfl) (by kernel_rfl) (by kernel_rfl) (by rfl) (by first | assumption | decide +kernel) (by decide +kernel) ⟨rfl, rfl, rfl, rfl, rfl, by decide +kernel⟩ ?hw ?hc
  case hw => w_witness2
  case hc =>
    refine Dl.walk_end (l := PySem.Challenge.rw_latestart_k01_tokens_of_lines) (n := 63) (k := 6) (F := K01.F_law) rfl (by decide) (by kernel_rfl) ⟨rfl, by decide, by decide⟩ ?F K01.holds
    intro w mg fa h Y G hmg0
    obtain ⟨K, KX, c⟩ := Y
    have T : K01.Tx K mg := ⟨h, KX, G, c⟩
    have hmg : mg ("law" : PySem.Str) = some (.ref fa) := by
      have e : (HandSHeadRun.topDef K01.R.prog 19).name = ("law" : PySem.Str) := by kernel_rfl
      rw [← e]
      exact hmg0
    exact ⟨K, KX, hmg, fun base => K01.ok_law (P := (PySem.Challenge.rw_latestart_k01_tokens_of_lines).prog) (w := w) (base := base) T⟩
