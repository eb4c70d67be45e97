/-
  Proved here: the landed disk's calls answer what the laws of layer 7 ask of them; so do those of no disk.
  The conditions stand at DiskOk and DiskNil (Disk).
-/
import Derived.Test.YtinlbmlgfneolaaDevPut
namespace Go.Proofs.Ytinlbmlgfneolaa
open Go.RowKit

theorem diskOk : DiskOk DI where
  lt := fun h => di_lt h
  kept := fun h hk _ => di_kept h hk
  new_no := new_no
  new_ok := new_ok
  get := fun n h hn => di_get n h hn
  put := fun G ao m cap ws h hL hFG hf => di_put G ao m cap ws h hL hFG hf
  barrier := fun h => di_barrier h
  fail := fun n h hn => di_fail n h hn
  restart := fun G ao m cap ks h hN hFG => di_restart G ao m cap ks h hN hFG
  opens := fun n h hn => di_open n h hn
  blocks := fun h => di_blocks h

theorem diskNil : DiskNil where
  get := fun n w _ => get_nil n w
  put := fun ao m cap w => (put_nil ao m cap w).mono fun _ _ ⟨h, e⟩ => ⟨h, e ▸ Below.refl _ _⟩
  barrier := fun w => (bar_nil w).mono fun _ _ ⟨h, e⟩ => ⟨h, e ▸ Below.refl _ _⟩
  fail := fun n w _ => (fail_nil n w).mono fun _ _ ⟨h, e⟩ => ⟨h, e ▸ Below.refl _ _⟩
  restart := fun ao m cap w => (res_nil ao m cap w).mono fun _ _ ⟨h, e⟩ => ⟨h, e ▸ Below.refl _ _⟩
  opens := fun n w _ => (open_nil n w).mono fun _ _ ⟨h, e⟩ => ⟨h, e ▸ Below.refl _ _⟩
  blocks := fun w => (blocks_nil w).mono fun _ _ ⟨h, e⟩ => ⟨h, e ▸ Below.refl _ _⟩

end Go.Proofs.Ytinlbmlgfneolaa
